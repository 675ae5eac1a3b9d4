/-
  OUR OWN: VxVqB VxVqC VxVqD VxVqE VxVqF VxVqG.
-/
import Derived.Test.YthdjmldddjljfaaGreatDoorG29
import Derived.Deep.RegionLaw
import Derived.Test.YthdjmldddjljfaaGreatDoorG30
import Derived.Deep.RegionHeld3
namespace Go.Proofs.YthdjmldddjljfaaGreatDoor.V
open Go.RowKit
attribute [local go_sem ↓] Go.wp_at_zero Go.wp_at_succ

theorem flat3_at {css : List (List Value)} (h3 : ∀ i, i < css.length → (css.getD i []).length = 3) : ∀ (q j : Nat), q < css.length → j < 3 → css.flatten[q * 3 + j]? = (css.getD q [])[j]? := by
  induction css with
  | nil => intro q j hq; simp at hq
  | cons c r ih =>
    intro q j hq hj
    have hc : c.length = 3 := h3 0 (by simp)
    cases q with
    | zero => rw [List.flatten_cons, List.getElem?_append_left (by omega)]; simp
    | succ q =>
      rw [List.flatten_cons, List.getElem?_append_right (by omega), hc, show (q + 1) * 3 + j - 3 = q * 3 + j from by omega, ih (fun i hi => by simpa using h3 (i + 1) (by simp; omega)) q j (by simpa using hq) hj]
      simp


theorem ItB.len3 {w : World} {r : Nat} {cs : List Value} {t : ByteArray} (h : ItB r w cs t) : cs.length = 3 := by
  obtain ⟨_, _, _, _, _, rfl⟩ := h.shape; rfl
theorem al_getD {w : World} {r : Nat} {css : List (List Value)} {ts : List ByteArray} (h : Al (ItB r w) css ts) (q : Nat) (hq : q < css.length) : ItB r w (css.getD q []) (ts.getD q eB) := by
  have := h.at q hq (by have := h.len; omega)
  rw [List.getD_eq_getElem?_getD, List.getElem?_eq_getElem hq, List.getD_eq_getElem?_getD, List.getElem?_eq_getElem (by have := h.len; omega)]
  exact this
/-- the cells of an item of a list -/
theorem itsB_cell {w wr : World} {ao : Option Addr} {lc r : Nat} {css : List (List Value)} {ts : List ByteArray} (ho : w.ownsRow 0 164 3 (.slice ao css.length lc) css.length css.flatten) (hi : Al (ItB r w) css ts) (hb : Below w.heap.size w wr) (q : Nat) (hlt : q < css.length) :
    ∃ g l0 b0 ao0 lo0 lc0, ao = some ⟨g, 0, none⟩ ∧ css.getD q [] = [.bool l0, .string b0, .slice ao0 lo0 lc0] ∧ wr.cell? ⟨g, q * 3, none⟩ = some (.bool l0) ∧ wr.cell? ⟨g, q * 3 + 1, none⟩ = some (.string b0) ∧ wr.cell? ⟨g, q * 3 + 2, none⟩ = some (.slice ao0 lo0 lc0) := by
  obtain ⟨g, hao, hgl, hcell⟩ : ∃ g, ao = some ⟨g, 0, none⟩ ∧ g < w.heap.size ∧ ∀ j u, css.flatten[j]? = some u → w.cell? ⟨g, j, none⟩ = some u := by
    rcases ho.2 with ⟨_, h0⟩ | ⟨g, c, cur, hh, _, hg, _⟩
    · omega
    · injection hh with hh1 _ _
      refine ⟨g, hh1, (Array.getElem?_eq_some_iff.1 hg).1, fun j u hu => ?_⟩
      have h := ho.cells (g := g) (by rw [hh1]; rfl) j u hu
      rwa [addr_add, Nat.zero_add] at h
  obtain ⟨l0, b0, ao0, lo0, lc0, hsh⟩ := (al_getD hi q hlt).shape
  have hat : ∀ j u, j < 3 → [Value.bool l0, .string b0, .slice ao0 lo0 lc0][j]? = some u → wr.cell? ⟨g, q * 3 + j, none⟩ = some u := by
    intro j u hj hu
    rw [hb.cell (p := ⟨g, q * 3 + j, none⟩) hgl]
    refine hcell _ _ ?_
    rw [flat3_at (fun i hi' => (al_getD hi i hi').len3) q j hlt hj, hsh]
    exact hu
  exact ⟨g, l0, b0, ao0, lo0, lc0, hao, hsh, hat 0 _ (by decide) rfl, hat 1 _ (by decide) rfl, hat 2 _ (by decide) rfl⟩

set_option maxHeartbeats 4000000 in
set_option maxRecDepth 20000 in
theorem codeB_text (b : ByteArray) (w : World) (hb : b.size < 72057594037927936) :
    Calls Tryz.prog 93 #[.agg #[.bool false, .string b, .slice none 0 0]] w fun e w' => e = .returned (.string (textC b)) ∧ Below w.heap.size w w' := by
  have HS := hide hb
  clear hb
  cases ho : ownC b with
  | true =>
    have HE : Hid (textC b = b) := by show _ = _; simp [textC, ho]
    have h1 : b.size = 1 := by simp [ownC] at ho; exact ho.1
    have h0 : 0 < b.size := by omega
    have HB := hide (byteN_eq b 0 h0)
    have h2 : (b[0].toNat : Int) < 128 := by rw [HB.out]; simp [ownC] at ho; omega
    have e1 : (b.size : Int) = 1 := by omega
    clear ho h1
    go_enter Tryz.func93, Tryz.ntmps93
    go_wp2
    go_ret
    exact ⟨by rw [HE.out]; rfl, below_alloc _ _⟩
  | false =>
    have HE : Hid (textC b = headS 128 b) := by show _ = _; simp [textC, ho]
    have HA : Hid (∀ W, Calls Tryz.prog 117 #[.int .i64 128, .int .i64 (b.size : Int)] W fun e w' => e = .returned (.string (strOfNums (hdr 128 b.size))) ∧ Below W.heap.size W w') := fun W => refAhead_any 128 b.size W (by omega) HS.out
    have HH : Hid (headS 128 b = strOfNums (hdr 128 b.size) ++ b) := rfl
    have hz : (strOfNums (hdr 128 b.size)).size ≤ 8 := by rw [strOfNums_size]; exact hdr_length _ _
    have hz4 : ¬ 9223372036854775807 < (strOfNums (hdr 128 b.size)).size + b.size := by have := HS.out; omega
    generalize strOfNums (hdr 128 b.size) = S at *
    by_cases h1 : b.size = 1
    · have h0 : 0 < b.size := by omega
      have HB := hide (byteN_eq b 0 h0)
      have h2 : (128 : Int) ≤ (b[0].toNat : Int) := by rw [HB.out]; simp [ownC, h1] at ho; omega
      have e1 : ((b.size : Int) == 1) = true := by simp; omega
      have e0 : (0 : Int) < (b.size : Int) := by omega
      clear ho h1
      go_enter Tryz.func93, Tryz.ntmps93
      go_wp2_with fail
      go_region_law
        ((go_simp; go_at_call 117; refine (HA.out _).mono ?_; rintro e w3 ⟨rfl, hb3⟩
          have HB3 : Hid (Below w.heap.size w w3) := (below_alloc w (.cells #[.bool false, .string b, .slice none 0 0] 164)).trans (Below.mono ⟨hb3.os, hb3.tape, hb3.output, hb3.size, hb3.block⟩ (by simp))
          have hx3 : w3.cell? ⟨w.heap.size, 1, none⟩ = some (.string b) := (World.cell?_of_block (w := w.alloc (.cells #[.bool false, .string b, .slice none 0 0] 164)) (a := ⟨w.heap.size, 1, none⟩) (hb3.block _ (by simp))).trans (cell_of_row _ w.heap.size 1 _ _ (0, 0) (heap_alloc_new w _))
          clear hb3))
      all_goals
        go_wp2
        go_ret
        exact ⟨by rw [HE.out, HH.out]; rfl, HB3.out⟩
    · have e1 : ((b.size : Int) == 1) = false := by simp; omega
      clear ho h1
      go_enter Tryz.func93, Tryz.ntmps93
      go_wp2_with fail
      go_region_law
        ((go_simp; go_at_call 117; refine (HA.out _).mono ?_; rintro e w3 ⟨rfl, hb3⟩
          have HB3 : Hid (Below w.heap.size w w3) := (below_alloc w (.cells #[.bool false, .string b, .slice none 0 0] 164)).trans (Below.mono ⟨hb3.os, hb3.tape, hb3.output, hb3.size, hb3.block⟩ (by simp))
          have hx3 : w3.cell? ⟨w.heap.size, 1, none⟩ = some (.string b) := (World.cell?_of_block (w := w.alloc (.cells #[.bool false, .string b, .slice none 0 0] 164)) (a := ⟨w.heap.size, 1, none⟩) (hb3.block _ (by simp))).trans (cell_of_row _ w.heap.size 1 _ _ (0, 0) (heap_alloc_new w _))
          clear hb3))
      all_goals
        go_wp2
        go_ret
        exact ⟨by rw [HE.out, HH.out]; rfl, HB3.out⟩

theorem join_take (ts : List ByteArray) (q : Nat) (h : q < ts.length) : joinB (ts.take (q + 1)) = joinB (ts.take q) ++ ts.getD q eB := by
  rw [List.take_succ_eq_append_getElem h, joinB_snoc, List.getD_eq_getElem?_getD, List.getElem?_eq_getElem h]; rfl
theorem totS_eq (ts : List ByteArray) : totS ts = (ts.map (·.size)).sum := rfl
theorem totS_take (ts : List ByteArray) (q : Nat) : totS (ts.take q) ≤ totS ts := by
  have := totS_append (ts.take q) (ts.drop q)
  rw [List.take_append_drop] at this
  omega
set_option maxHeartbeats 2000000 in
set_option maxRecDepth 20000 in
theorem codeB_list (r : Nat) (ih : ∀ (w : World) (c0 c1 c2 : Value) (t : ByteArray), ItB r w [c0, c1, c2] t → t.size ≤ 6000 → Calls Tryz.prog 93 #[.agg #[c0, c1, c2]] w fun e w' => e = .returned (.string t) ∧ Below w.heap.size w w')
    (w : World) (lk : Value) (css : List (List Value)) (ts : List ByteArray) (ho : w.ownsRow 0 164 3 lk css.length css.flatten) (hi : Al (ItB r w) css ts) (ht : totS ts ≤ 6000) :
    Calls Tryz.prog 93 #[.agg #[.bool true, .string ⟨#[]⟩, lk]] w fun e w' => e = .returned (.string (listC ts)) ∧ Below w.heap.size w w' := by
  obtain ⟨ao, lc, hlv⟩ : ∃ ao lc, lk = .slice ao css.length lc := by
    rcases ho.2 with ⟨rfl, h0⟩ | ⟨g, c, cur, rfl, _⟩
    · exact ⟨none, 0, by rw [h0]⟩
    · exact ⟨_, _, rfl⟩
  subst hlv
  have hml : (css.length : Int) ≤ 9223372036854775807 := by
    rcases ho.2 with ⟨_, h0⟩ | ⟨g, c, cur, _, _, _, h1, h2, _⟩
    · omega
    · unfold maxLen at h2; omega
  have HO := hide ho
  have HI := hide hi
  have HL := hide hi.len
  have HT := hide ht
  have HX0 : Hid ((w.alloc (.cells #[.bool true, .string ⟨#[]⟩, .slice ao css.length lc] 164)).heap[w.heap.size]? = some (.cells #[.bool true, .string ⟨#[]⟩, .slice ao css.length lc] 164 (0, 0))) := heap_alloc_new w _
  have HB0 : Hid (Below w.heap.size w (w.alloc (.cells #[.bool true, .string ⟨#[]⟩, .slice ao css.length lc] 164))) := below_alloc w _
  clear ho hi ht
  go_enter Tryz.func93, Tryz.ntmps93
  go_wp2_with fail
  generalize World.alloc w _ = W0 at *
  go_loopw [3, 4] (fun sv i wr => ∃ (q : Nat), q ≤ css.length ∧ i = .int .i64 (q : Int) ∧ sv = .string (joinB (ts.take q)) ∧ Below w.heap.size w wr ∧ wr.heap[w.heap.size]? = some (.cells #[.bool true, .string ⟨#[]⟩, .slice ao css.length lc] 164 (0, 0))) (fun _ i _ => css.length - (intOf i).toNat)
  case atStart => exact ⟨0, Nat.zero_le _, rfl, rfl, HB0.out, HX0.out⟩
  case round =>
    obtain ⟨q, hq, rfl, rfl, hbw, hbx⟩ := hrel
    have HB := hide hbw
    have HX := hide hbx
    have hx2 : wr.cell? ⟨w.heap.size, 2, none⟩ = some (.slice ao css.length lc) := cell_of_row wr _ 2 _ _ (0, 0) hbx
    clear hbw hbx
    have htk := totS_take ts q
    have hjs := joinB_size (ts.take q)
    by_cases hlt : q < css.length
    · have cl : (q : Int) < (css.length : Int) := by omega
      obtain ⟨g, l0, b0, ao0, lo0, lc0, rfl, hsh, z0, z1, z2⟩ := itsB_cell HO.out HI.out HB.out q hlt
      have HQI := hide (al_getD HI.out q hlt)
      rw [hsh] at HQI
      have hcz : (ts.getD q eB).size ≤ 6000 := by
        have h1 := sum_mem (List.mem_map_of_mem (f := (·.size)) (getD_mem (l := ts) (i := q) (by have := HL.out; omega)))
        have h2 := HT.out
        rw [totS_eq] at h2
        omega
      have HC := hide (ih wr _ _ _ _ (HQI.out.keep HB.out) hcz)
      have HJ := hide (join_take ts q (by have := HL.out; omega))
      have hz : ¬ 9223372036854775807 < (joinB (ts.take q)).size + (ts.getD q eB).size := by rw [hjs]; have := HT.out; omega
      clear hsh htk hjs hcz
      generalize joinB (ts.take q) = J at *
      generalize ts.getD q eB = c at *
      go_wp2_with fail
      refine HC.out.mono ?_
      rintro e w2 ⟨rfl, hb2⟩
      have HB2 : Hid (Below w.heap.size w w2) := HB.out.trans (hb2.mono HB.out.size)
      have HX2 : Hid (w2.heap[w.heap.size]? = some (.cells #[.bool true, .string ⟨#[]⟩, .slice (some ⟨g, 0, none⟩) css.length lc] 164 (0, 0))) := by
        show _ = _
        rw [hb2.block _ (Array.getElem?_eq_some_iff.1 HX.out).1]; exact HX.out
      clear hb2
      go_wp2
      go_roundw
      case rel => exact ⟨q + 1, by omega, by go_num, by rw [HJ.out], HB2.out, HX2.out⟩
      case measure => simp [intOf]; omega
    · obtain rfl : q = css.length := by omega
      have htl : ts.take css.length = ts := List.take_of_length_le (by have := HL.out; omega)
      rw [htl] at hjs ⊢
      have hsz : (joinB ts).size < 72057594037927936 := by rw [hjs]; have := HT.out; omega
      have HSZ := hide hsz
      have HA : Hid (∀ W, Calls Tryz.prog 117 #[.int .i64 192, .int .i64 ((joinB ts).size : Int)] W fun e w' => e = .returned (.string (strOfNums (hdr 192 (joinB ts).size))) ∧ Below W.heap.size W w') := fun W => refAhead_any 192 (joinB ts).size W (by omega) HSZ.out
      have HH : Hid (listC ts = strOfNums (hdr 192 (joinB ts).size) ++ joinB ts) := rfl
      have hz4 : ¬ 9223372036854775807 < (strOfNums (hdr 192 (joinB ts).size)).size + (joinB ts).size := by rw [strOfNums_size]; have := hdr_length 192 (joinB ts).size; omega
      clear hsz htl htk hjs
      generalize strOfNums (hdr 192 (joinB ts).size) = S at *
      generalize joinB ts = J at *
      go_wp2_with fail
      refine (HA.out _).mono ?_
      rintro e w2 ⟨rfl, hb2⟩
      go_wp2
      go_ret
      exact ⟨by rw [HH.out]; rfl, HB.out.trans (hb2.mono HB.out.size)⟩
/-- the code of what was read of a text is the text -/
theorem codeB_any : ∀ (r : Nat) (w : World) (c0 c1 c2 : Value) (t : ByteArray), ItB r w [c0, c1, c2] t → t.size ≤ 6000 → Calls Tryz.prog 93 #[.agg #[c0, c1, c2]] w fun e w' => e = .returned (.string t) ∧ Below w.heap.size w w'
  | 0, w, c0, c1, c2, t, h, ht => by
    obtain ⟨b, h0, h1⟩ := h
    simp only [List.cons.injEq, and_true] at h1
    obtain ⟨rfl, rfl, rfl⟩ := h1
    have hz := txt_size h0
    have := codeB_text b w (by omega)
    rwa [← txt_code h0 ht] at this
  | r + 1, w, c0, c1, c2, t, h, ht => by
    rcases h with ⟨b, h0, h1⟩ | ⟨v, css, ts, h0, h1, ho, hi⟩
    · simp only [List.cons.injEq, and_true] at h1
      obtain ⟨rfl, rfl, rfl⟩ := h1
      have hz := txt_size h0
      have := codeB_text b w (by omega)
      rwa [← txt_code h0 ht] at this
    · simp only [List.cons.injEq, and_true] at h1
      obtain ⟨rfl, rfl, rfl⟩ := h1
      have hs := (itemsOf_sizes h0).1
      have := codeB_list r (codeB_any r) w _ css ts ho hi (by rw [totS_eq]; omega)
      rwa [← items_code h0 ht] at this
end Go.Proofs.YthdjmldddjljfaaGreatDoor.V
namespace Go.Proofs.YthdjmldddjljfaaGreatDoor.V
open Go.RowKit
attribute [local go_sem ↓] Go.wp_at_zero Go.wp_at_succ

/-- a path that a call made: new, or none -/
def NewInts (B : Nat) (w : World) (v : Value) (p : List Int) : Prop := w.ownsRow B 3 1 v p.length (p.map (Value.int .i64))
set_option maxHeartbeats 2000000 in
set_option maxRecDepth 20000 in
theorem joined_any (ao bo : Option Addr) (ca cb : Nat) (p q : List Int) (w : World) (hp : Ints w ao p) (hq : Ints w bo q) (ha : ao = none → ca = 0) (hb : bo = none → cb = 0) (hl : p.length ≤ 100000) (hm : q.length ≤ 100000) :
    Calls Tryz.prog 134 #[.slice ao p.length ca, .slice bo q.length cb] w fun e w' => ∃ v, e = .returned v ∧ NewInts w.heap.size w' v (p ++ q) ∧ Below w.heap.size w w' := by
  obtain ⟨i0, hi, hz0, hz1, hz2⟩ := info_parts info3
  have HP := hide (And.intro hp ha)
  have HQ := hide (And.intro hq hb)
  clear hp hq ha hb
  have HR1 : Hid (Reads w (.slice ao p.length ca) p.length (p.map (Value.int .i64))) := HP.out.1.reads HP.out.2
  have hon : ∀ zs : List Int, ∀ u ∈ zs.map (Value.int .i64), u.oneCell' = true := ints_one
  go_enter Tryz.func134, Tryz.ntmps134
  have tok1 : True := trivial
  go_wp2_with (first
    | (at_builtin; clear tok1; go_must (refine wpList_append_reads rfl (.tmp 6) (.tmp 7) 80 rfl w.heap.size 3 i0 (.int .i64 0) 1 8 Tryz.underlying80 hi hz0 hz1 hz2 rfl (by decide) (.slice none 0 0) 0 [] rfl (World.ownsRow_nil _ _ _ _) _ p.length (p.map (Value.int .i64)) rfl HR1.out (by simp) (hon p) (by unfold maxLen; omega) (by omega) (Nat.le_refl _) ?_); intro v3 w3 ho3 hg3; go_must (have HO3 := hide (And.intro ho3 hg3)); go_must (have HB3 : Hid (Below w.heap.size w w3) := (Below.refl _ _).grown hg3 (Nat.le_refl _) (fun k e => by cases e)); go_must (have HR2 : Hid (Reads w3 (.slice bo q.length cb) q.length (q.map (Value.int .i64))) := (HQ.out.1.keep HB3.out).reads HQ.out.2); clear ho3 hg3)
    | (at_builtin; go_must (refine wpList_append_reads rfl (.tmp 9) (.tmp 10) 80 rfl w.heap.size 3 i0 (.int .i64 0) 1 8 Tryz.underlying80 hi hz0 hz1 hz2 rfl (by decide) v3 (0 + p.length) ([] ++ p.map (Value.int .i64)) rfl HO3.out.1 _ q.length (q.map (Value.int .i64)) rfl HR2.out (by simp) (hon q) (by unfold maxLen; omega) (by omega) HB3.out.size ?_); intro v4 w4 ho4 hg4; go_must (have HO4 := hide (And.intro ho4 hg4)); clear ho4 hg4))
  go_ret
  refine ⟨_, rfl, ?_, HB3.out.grown HO4.out.2 HB3.out.size (own_ge HO3.out.1 (Nat.le_refl _))⟩
  have h := HO4.out.1
  rw [List.nil_append, ← List.map_append, Nat.zero_add, ← List.length_append] at h
  exact h
end Go.Proofs.YthdjmldddjljfaaGreatDoor.V
namespace Go.Proofs.YthdjmldddjljfaaGreatDoor.V
open Go.RowKit
attribute [local go_sem ↓] Go.wp_at_zero Go.wp_at_succ

/-- blocks of ints are as they were -/
def KpI (w w' : World) : Prop := ∀ (g : Nat) (cur : Array Value), w.heap[g]? = some (.cells cur 3 (0, 0)) → w'.heap[g]? = some (.cells cur 3 (0, 0))
theorem KpI.of_below {w w' : World} (h : Below w.heap.size w w') : KpI w w' := fun g _ hg => (h.block g (Array.getElem?_eq_some_iff.1 hg).1).trans hg
theorem KpI.trans {w w1 w2 : World} (h : KpI w w1) (h2 : KpI w1 w2) : KpI w w2 := fun g cur hg => h2 g cur (h g cur hg)
theorem KpI.of_grown {w w' : World} {base e k n : Nat} {v : Value} {xs : List Value} (ho : w.ownsRow base e k v n xs) (he : e ≠ 3) (hg : w.grownBy w' v.ownBlock) : KpI w w' := fun g cur hc => by
  rw [hg.block g (Array.getElem?_eq_some_iff.1 hc).1]
  · exact hc
  · intro hb
    rcases ho.2 with ⟨rfl, _⟩ | ⟨g', c, cur', rfl, _, h3, _⟩
    · cases hb
    · obtain rfl : g = g' := by simpa [Value.ownBlock] using hb
      rw [hc] at h3
      simp only [Option.some.injEq, Obj.cells.injEq] at h3
      exact he h3.2.1.symm
/-- a path in a block of ints -/
structure PSl (w : World) (ao : Option Addr) (cap : Nat) (p : List Int) : Prop where
  nil : ao = none → cap = 0
  cap : p.length ≤ cap
  at' : p ≠ [] → ∃ (g o : Nat) (cur : Array Value), ao = some ⟨g, o, none⟩ ∧ w.heap[g]? = some (.cells cur 3 (0, 0)) ∧ ∀ j, j < p.length → cur[o + j]? = some (.int .i64 (p.getD j 0))
theorem PSl.keep {w w' : World} {ao : Option Addr} {cap : Nat} {p : List Int} (h : PSl w ao cap p) (hk : KpI w w') : PSl w' ao cap p := ⟨h.nil, h.cap, fun hn => by
  obtain ⟨g, o, cur, h1, h2, h3⟩ := h.at' hn
  exact ⟨g, o, cur, h1, hk g cur h2, h3⟩⟩
theorem PSl.ints {w : World} {ao : Option Addr} {cap : Nat} {p : List Int} (h : PSl w ao cap p) : Ints w ao p := by
  by_cases hn : p = []
  · exact .inl hn
  · obtain ⟨g, o, cur, h1, h2, h3⟩ := h.at' hn
    exact .inr ⟨g, o, h1, fun j hj => (cell_of_row w g (o + j) cur _ (0, 0) h2).trans (h3 j hj)⟩
theorem PSl.of_own {w : World} {base : Nat} {v : Value} {p : List Int} (h : NewInts base w v p) : ∃ ao cap, v = .slice ao p.length cap ∧ PSl w ao cap p := by
  rcases h.2 with ⟨rfl, h0⟩ | ⟨g, c, cur, rfl, _, h3, h4, _, _, h6⟩
  · obtain rfl : p = [] := List.length_eq_zero_iff.1 h0
    exact ⟨none, 0, rfl, ⟨fun _ => rfl, Nat.le_refl _, fun h => absurd rfl h⟩⟩
  · refine ⟨_, c, rfl, ⟨(fun h => by cases h), h4, fun _ => ⟨g, 0, cur, rfl, h3, fun j hj => ?_⟩⟩⟩
    have e1 : (cur.toList.take (p.length * 1))[j]? = (p.map (Value.int .i64))[j]? := by rw [h6]
    rw [List.getElem?_take, if_pos (by omega), Array.getElem?_toList] at e1
    rw [Nat.zero_add, e1]
    simp [List.getD_eq_getElem?_getD, hj]
theorem PSl.empty (w : World) : PSl w none 0 [] := ⟨fun _ => rfl, Nat.le_refl _, fun h => absurd rfl h⟩

/-- a thing's four cells -/
def ThAt (w : World) (cs : List Value) (x : Th) : Prop := ∃ ao cap, cs = [.slice ao x.path.length cap, .string x.value, .string x.hash, .bool x.under] ∧ PSl w ao cap x.path
theorem ThAt.keep {w w' : World} {cs : List Value} {x : Th} (h : ThAt w cs x) (hk : KpI w w') : ThAt w' cs x := by
  obtain ⟨ao, cap, h1, h2⟩ := h; exact ⟨ao, cap, h1, h2.keep hk⟩
/-- a row of things -/
structure ThRow (base : Nat) (w : World) (v : Value) (L : List Th) : Prop where
  held : ∃ css, w.ownsRow base 118 4 v L.length css.flatten ∧ Al (ThAt w) css L
theorem ThRow.keep {base : Nat} {w w' : World} {v : Value} {L : List Th} (h : ThRow base w v L) (hb : Below w.heap.size w w') : ThRow base w' v L := by
  obtain ⟨css, h1, h2⟩ := h
  exact ⟨css, own_far h1 (fun g _ hg => hb.block g hg), h2.mono (fun _ _ h => h.keep (KpI.of_below hb))⟩
theorem ThRow.base {base base' : Nat} {w : World} {v : Value} {L : List Th} (h : ThRow base w v L) (hb : base' ≤ base) : ThRow base' w v L := by
  obtain ⟨css, h1, h2⟩ := h; exact ⟨css, own_base h1 hb, h2⟩
theorem ThRow.nil (base : Nat) (w : World) : ThRow base w (.slice none 0 0) [] := ⟨[], World.ownsRow_nil _ _ _ _, .nil⟩
theorem ThRow.shape {base : Nat} {w : World} {v : Value} {L : List Th} (h : ThRow base w v L) : ∃ ao cap, v = .slice ao L.length cap := by
  obtain ⟨css, h1, _⟩ := h
  rcases h1.2 with ⟨rfl, h0⟩ | ⟨g, c, cur, rfl, _⟩
  · exact ⟨none, 0, by rw [h0]⟩
  · exact ⟨_, c, rfl⟩

def valOk (l : Bool) (b : ByteArray) (n : Nat) : Bool := decide (l = false ∧ 1 ≤ b.size ∧ b.size ≤ 400 ∧ n % 2 = 0 ∧ n ≤ 128)
set_option maxHeartbeats 2000000 in
set_option maxRecDepth 20000 in
theorem value_any (l : Bool) (b : ByteArray) (lo : Option Addr) (ln lc : Nat) (ao : Option Addr) (n cap : Nat) (w : World) (hn : n ≤ 100000) :
    Calls Tryz.prog 135 #[.agg #[.bool l, .string b, .slice lo ln lc], .slice ao n cap] w fun e w' => e = .returned (.tuple #[.agg #[.slice ao n cap, .string b, .string ⟨#[]⟩, .bool false], .bool (valOk l b n)]) ∧ Below w.heap.size w w' := by
  obtain ⟨z, hz⟩ : ∃ z, Hid (valOk l b n = z) := ⟨_, Eq.refl _⟩
  rw [hz.out]
  have n0 : (0 : Int) ≤ (n : Int) := by omega
  cases l with
  | true =>
    obtain rfl : z = false := by rw [← hz.out]; simp [valOk]
    go_enter Tryz.func135, Tryz.ntmps135
    go_wp2
    refine bodyPost_ret (v := .tuple #[.agg #[.slice ao n cap, .string b, .string ⟨#[]⟩, .bool false], .bool false]) (by first | (simp [results, Tryz.results135, go_sem]; done) | (simp [results, Tryz.results135, go_sem]; omega)) rfl ⟨rfl, ?_⟩
    first | exact below_alloc _ _ | exact below_alloc2 _ _ _
  | false =>
    by_cases h1 : 1 ≤ b.size
    · have i1 : (1 : Int) ≤ (b.size : Int) := by omega
      by_cases h2 : b.size ≤ 400
      · have i2 : (b.size : Int) ≤ 400 := by omega
        by_cases h3 : n % 2 = 0
        · have i3 : ((n : Int) % 2 == 0) = true := by simp; omega
          by_cases h4 : n ≤ 128
          · have i4 : (n : Int) ≤ 128 := by omega
            obtain rfl : z = true := by rw [← hz.out]; simp [valOk]; omega
            go_enter Tryz.func135, Tryz.ntmps135
            go_wp2
            refine bodyPost_ret (v := .tuple #[.agg #[.slice ao n cap, .string b, .string ⟨#[]⟩, .bool false], .bool true]) (by first | (simp [results, Tryz.results135, go_sem]; done) | (simp [results, Tryz.results135, go_sem]; omega)) rfl ⟨rfl, ?_⟩
            first | exact below_alloc _ _ | exact below_alloc2 _ _ _
          · have i4 : 128 < (n : Int) := by omega
            obtain rfl : z = false := by rw [← hz.out]; simp [valOk]; omega
            go_enter Tryz.func135, Tryz.ntmps135
            go_wp2
            refine bodyPost_ret (v := .tuple #[.agg #[.slice ao n cap, .string b, .string ⟨#[]⟩, .bool false], .bool false]) (by first | (simp [results, Tryz.results135, go_sem]; done) | (simp [results, Tryz.results135, go_sem]; omega)) rfl ⟨rfl, ?_⟩
            first | exact below_alloc _ _ | exact below_alloc2 _ _ _
        · have i3 : ((n : Int) % 2 == 0) = false := by simp; omega
          obtain rfl : z = false := by rw [← hz.out]; simp [valOk]; omega
          go_enter Tryz.func135, Tryz.ntmps135
          go_wp2
          refine bodyPost_ret (v := .tuple #[.agg #[.slice ao n cap, .string b, .string ⟨#[]⟩, .bool false], .bool false]) (by first | (simp [results, Tryz.results135, go_sem]; done) | (simp [results, Tryz.results135, go_sem]; omega)) rfl ⟨rfl, ?_⟩
          first | exact below_alloc _ _ | exact below_alloc2 _ _ _
      · have i2 : 400 < (b.size : Int) := by omega
        obtain rfl : z = false := by rw [← hz.out]; simp [valOk]; omega
        go_enter Tryz.func135, Tryz.ntmps135
        go_wp2
        refine bodyPost_ret (v := .tuple #[.agg #[.slice ao n cap, .string b, .string ⟨#[]⟩, .bool false], .bool false]) (by first | (simp [results, Tryz.results135, go_sem]; done) | (simp [results, Tryz.results135, go_sem]; omega)) rfl ⟨rfl, ?_⟩
        first | exact below_alloc _ _ | exact below_alloc2 _ _ _
    · have i1 : (b.size : Int) < 1 := by omega
      obtain rfl : z = false := by rw [← hz.out]; simp [valOk]; omega
      go_enter Tryz.func135, Tryz.ntmps135
      go_wp2
      refine bodyPost_ret (v := .tuple #[.agg #[.slice ao n cap, .string b, .string ⟨#[]⟩, .bool false], .bool false]) (by first | (simp [results, Tryz.results135, go_sem]; done) | (simp [results, Tryz.results135, go_sem]; omega)) rfl ⟨rfl, ?_⟩
      first | exact below_alloc _ _ | exact below_alloc2 _ _ _
end Go.Proofs.YthdjmldddjljfaaGreatDoor.V
namespace Go.Proofs.YthdjmldddjljfaaGreatDoor.V
open Go.RowKit
attribute [local go_sem ↓] Go.wp_at_zero Go.wp_at_succ

/-- what a list of things answers -/
def ThPost (o : Option Nx) (p : List Int) (u : Bool) (w : World) (e : Ending) (w' : World) : Prop := match o with
  | some n => ∃ v, e = .returned (.tuple #[v, .bool true]) ∧ ThRow w.heap.size w' v (flatX n p u) ∧ Below w.heap.size w w'
  | none => ∃ ao n cap, e = .returned (.tuple #[.slice ao n cap, .bool false]) ∧ Below w.heap.size w w'
theorem ThPost.none {o : Option Nx} {p : List Int} {u : Bool} {w w' : World} {e : Ending} (h : o = .none) (ao : Option Addr) (n cap : Nat) (h1 : e = .returned (.tuple #[.slice ao n cap, .bool false])) (h2 : Below w.heap.size w w') : ThPost o p u w e w' := by subst h; exact ⟨ao, n, cap, h1, h2⟩
theorem ThPost.some {o : Option Nx} {n : Nx} {p : List Int} {u : Bool} {w w' : World} {e : Ending} (h : o = .some n) (v : Value) (h1 : e = .returned (.tuple #[v, .bool true])) (h2 : ThRow w.heap.size w' v (flatX n p u)) (h3 : Below w.heap.size w w') : ThPost o p u w e w' := by subst h; exact ⟨v, h1, h2, h3⟩
def thB (o : Option Nx) (under : Bool) : Option Nx := match o with
  | none => none
  | some n => if under = true ∧ n.isBr = false then none else some n
def refB (o : Option Nx) (under : Bool) : Option Nx := match o with
  | none => none
  | some n => if under = true ∧ n.isNil = false ∧ n.isHash = false ∧ n.isBr = false then none else some n
def ThingsOk (r f : Nat) : Prop := ∀ (c0 c1 c2 : Value) (t : ByteArray) (ao : Option Addr) (cap : Nat) (p : List Int) (under : Bool) (w : World), ItB r w [c0, c1, c2] t → PSl w ao cap p → t.size ≤ 6000 → p.length + r ≤ 300 → (∀ ts u, itemsOf t = some ts → u ∈ ts → u.size < 32 → u.size < f) →
  Calls Tryz.prog 110 #[.agg #[c0, c1, c2], .slice ao p.length cap, .bool under] w fun e w' => ThPost (thB (parseF (f + 1) t p.length) under) p under w e w'
def ReferOk (r f : Nat) : Prop := ∀ (c0 c1 c2 : Value) (t : ByteArray) (ao : Option Addr) (cap : Nat) (p : List Int) (under : Bool) (w : World), ItB r w [c0, c1, c2] t → PSl w ao cap p → t.size ≤ 6000 → p.length + r ≤ 300 → (t.size < 32 → t.size < f) →
  Calls Tryz.prog 136 #[.agg #[c0, c1, c2], .slice ao p.length cap, .bool under] w fun e w' => ThPost (refB (refF (parseF f) t p.length) under) p under w e w'
theorem infoTh : (Tryz.prog.info? 118).map (fun i => (i.zero, i.size, i.bytes)) = some (some (.agg #[.slice none 0 0, .string ⟨#[]⟩, .string ⟨#[]⟩, .bool false]), 4, 64) := by kernel_rfl
/-- one thing alone -/
theorem ThRow.one {w : World} {ao : Option Addr} {cap : Nat} {x : Th} (h : PSl w ao cap x.path) : ThRow w.heap.size (w.alloc (.cells #[.slice ao x.path.length cap, .string x.value, .string x.hash, .bool x.under] 118)) (.slice (some ⟨w.heap.size, 0, none⟩) 1 1) [x] :=
  ⟨[[.slice ao x.path.length cap, .string x.value, .string x.hash, .bool x.under]], ⟨rfl, .inr ⟨w.heap.size, 1, _, rfl, Nat.le_refl _, heap_alloc_new w _, Nat.le_refl _, by unfold maxLen; omega, rfl, rfl⟩⟩, .cons ⟨ao, cap, rfl, h.keep (KpI.of_below (below_alloc _ _))⟩ .nil⟩

set_option maxHeartbeats 2000000 in
set_option maxRecDepth 20000 in
theorem referred_text (P : ByteArray → Nat → Option Nx) (t b : ByteArray) (ao : Option Addr) (cap : Nat) (p : List Int) (under : Bool) (w : World) (hb : txt t = some b) (hp : PSl w ao cap p) :
    Calls Tryz.prog 136 #[.agg #[.bool false, .string b, .slice none 0 0], .slice ao p.length cap, .bool under] w fun e w' => ThPost (refB (refF P t p.length) under) p under w e w' := by
  have HP := hide hp
  by_cases h0 : b.size = 0
  · have HR : Hid (refB (refF P t p.length) under = some .nil) := by
      show _ = _; unfold refF; rw [hb]; simp only; rw [if_pos h0]; unfold refB; simp only
      rw [if_neg (by rintro ⟨_, h, _⟩; cases h)]
    obtain rfl := empty_of_size h0
    clear hb h0 hp
    go_enter Tryz.func136, Tryz.ntmps136
    go_wp2
    go_ret2
    exact ThPost.some HR.out _ rfl (ThRow.nil _ _) (below_alloc _ _)
  · have hne : b.toList.isEmpty = false := by
      cases hs : b.toList with
      | nil =>
        exfalso; apply h0
        have : b = ⟨#[]⟩ := toList_inj (by rw [hs]; simp [ByteArray.toList_eq])
        rw [this]; rfl
      | cons _ _ => rfl
    by_cases h32 : b.size = 32
    · have HR : Hid (refB (refF P t p.length) under = some (.hash b)) := by
        show _ = _; unfold refF; rw [hb]; simp only; rw [if_neg h0, if_pos h32]; unfold refB; simp only
        rw [if_neg (by rintro ⟨_, _, h, _⟩; cases h)]
      have i1 : ((b.size : Int) == 32) = true := by simp; omega
      clear hb h0 hp h32
      go_enter Tryz.func136, Tryz.ntmps136
      have HRow : Hid (ThRow w.heap.size ((w.alloc (.cells #[.bool false, .string b, .slice none 0 0] 164)).alloc (.cells #[.slice ao p.length cap, .string eB, .string b, .bool under] 118)).drew (.slice (some ⟨w.heap.size + 1, 0, none⟩) 1 1) [⟨p, eB, b, under⟩]) := by
        have h := ThRow.one (w := w.alloc (.cells #[.bool false, .string b, .slice none 0 0] 164)) (x := ⟨p, eB, b, under⟩) (HP.out.keep (KpI.of_below (below_alloc w _)))
        rw [World.size_alloc] at h
        exact (h.base (Nat.le_succ _)).keep (Below.refl _ _).drew
      have z1 : (w.alloc (.cells #[.bool false, .string b, .slice none 0 0] 164)).cell? ⟨w.heap.size, 1, none⟩ = some (.string b) := cell_of_row _ _ 1 _ _ (0, 0) (heap_alloc_new w _)
      go_wp2_with fail
      go_region_held3 (fun W => W.cell? ⟨w.heap.size, 1, none⟩ = some (.string b)) (first | go_keep | (simp [*])) ((fail))
      all_goals go_wp2
      all_goals go_ret2
      all_goals exact ThPost.some HR.out _ rfl HRow.out ((below_alloc w _).alloc (by simp) _).drew
    · have HR : Hid (refB (refF P t p.length) under = none) := by
        show _ = _; unfold refF; rw [hb]; simp only; rw [if_neg h0, if_neg h32]; rfl
      have i1 : ((b.size : Int) == 32) = false := beq_false_of_ne (by omega)
      clear hb h0 hp h32
      go_enter Tryz.func136, Tryz.ntmps136
      have z1 : (w.alloc (.cells #[.bool false, .string b, .slice none 0 0] 164)).cell? ⟨w.heap.size, 1, none⟩ = some (.string b) := cell_of_row _ _ 1 _ _ (0, 0) (heap_alloc_new w _)
      go_wp2_with fail
      go_region_held3 (fun W => W.cell? ⟨w.heap.size, 1, none⟩ = some (.string b)) (first | go_keep | (simp [*])) ((fail))
      all_goals go_wp2
      all_goals go_ret2
      all_goals exact ThPost.none HR.out _ _ _ rfl (by first | exact (below_alloc w _).alloc (by simp) _ | exact ((below_alloc w _).drew).alloc (by simp) _ | exact ((below_alloc w _).alloc (by simp) _).drew)
theorem items_txt {t : ByteArray} {ts : List ByteArray} (h : itemsOf t = some ts) : txt t = none := by
  cases hx : txt t with
  | none => rfl
  | some b => rw [txt_items hx] at h; cases h
theorem refB_thB (o : Option Nx) (under : Bool) (h : ∀ n, o = some n → n.isNil = false ∧ n.isHash = false) : refB o under = thB o under := by
  cases o with
  | none => rfl
  | some n =>
    obtain ⟨h1, h2⟩ := h n rfl
    simp [refB, thB, h1, h2]
theorem ThPost.form {o : Option Nx} {p : List Int} {u : Bool} {w w' : World} {e : Ending} (h : ThPost o p u w e w') : ∃ ao n cap, e = .returned (.tuple #[.slice ao n cap, .bool o.isSome]) ∧ (∀ m, o = .some m → n = (flatX m p u).length ∧ ThRow w.heap.size w' (.slice ao n cap) (flatX m p u)) ∧ Below w.heap.size w w' := by
  cases o with
  | none => obtain ⟨ao, n, cap, h1, h2⟩ := h; exact ⟨ao, n, cap, h1, (fun m e => by cases e), h2⟩
  | some m =>
    obtain ⟨v, h1, h2, h3⟩ := h
    obtain ⟨ao, cap, rfl⟩ := h2.shape
    exact ⟨ao, _, cap, h1, (fun m' e => by injection e with e; subst e; exact ⟨rfl, h2⟩), h3⟩
theorem ThPost.of {o : Option Nx} {p : List Int} {u : Bool} {w w' : World} {e : Ending} (ao : Option Addr) (n cap : Nat) (h1 : e = .returned (.tuple #[.slice ao n cap, .bool o.isSome])) (h2 : ∀ m, o = .some m → ThRow w.heap.size w' (.slice ao n cap) (flatX m p u)) (h3 : Below w.heap.size w w') : ThPost o p u w e w' := by
  cases o with
  | none => exact ⟨ao, n, cap, h1, h3⟩
  | some m => exact ⟨_, h1, h2 m rfl, h3⟩
set_option maxHeartbeats 2000000 in
set_option maxRecDepth 20000 in
theorem referred_list (r f : Nat) (iht : ∀ f', f = f' + 1 → ThingsOk (r + 1) f') (v : Value) (t : ByteArray) (ts : List ByteArray) (ao : Option Addr) (cap : Nat) (p : List Int) (under : Bool) (w : World) (hit : ItB (r + 1) w [.bool true, .string ⟨#[]⟩, v] t) (hts : itemsOf t = some ts) (hp : PSl w ao cap p) (ht : t.size ≤ 6000) (hpl : p.length + (r + 1) ≤ 300) (hf : t.size < 32 → t.size < f) :
    Calls Tryz.prog 136 #[.agg #[.bool true, .string ⟨#[]⟩, v], .slice ao p.length cap, .bool under] w fun e w' => ThPost (refB (refF (parseF f) t p.length) under) p under w e w' := by
  obtain ⟨l0, b0, lo, ln, lc, hsh⟩ := hit.shape
  simp only [List.cons.injEq, and_true] at hsh
  obtain ⟨-, -, rfl⟩ := hsh
  have HC : Hid (∀ o, Calls Tryz.prog 93 #[.agg #[.bool true, .string ⟨#[]⟩, .slice lo ln lc]] (w.alloc o) fun e w' => e = .returned (.string t) ∧ Below (w.alloc o).heap.size (w.alloc o) w') := fun o => codeB_any (r + 1) (w.alloc o) _ _ _ t (hit.keep (below_alloc _ _)) ht
  have hnt := items_txt hts
  by_cases h32 : 32 ≤ t.size
  · have HR : Hid (refB (refF (parseF f) t p.length) under = none) := by
      show _ = _; unfold refF; rw [hnt]; simp only; rw [if_pos h32]; rfl
    have i1 : (32 : Int) ≤ (t.size : Int) := by omega
    clear h32 hit hp iht hts hnt hf
    go_enter Tryz.func136, Tryz.ntmps136
    go_wp2_with fail
    refine (HC.out _).mono ?_
    rintro e w1 ⟨rfl, hb1⟩
    go_wp2
    go_ret2
    exact ThPost.none HR.out _ _ _ rfl ((below_alloc w _).trans (hb1.mono (by simp)))
  · have i1 : (t.size : Int) < 32 := by omega
    obtain ⟨f', rfl⟩ : ∃ f', f = f' + 1 := ⟨f - 1, by have := hf (by omega); omega⟩
    have HR : Hid (refB (refF (parseF (f' + 1)) t p.length) under = thB (parseF (f' + 1) t p.length) under) := by
      show _ = _; unfold refF; rw [hnt]; simp only; rw [if_neg h32]
      exact refB_thB _ _ (fun n hn => (parseF_WF _ _ _ _ hn).2)
    have HTh : Hid (∀ W, Below w.heap.size w W → Calls Tryz.prog 110 #[.agg #[.bool true, .string ⟨#[]⟩, .slice lo ln lc], .slice ao p.length cap, .bool under] W fun e w' => ThPost (thB (parseF (f' + 1) t p.length) under) p under W e w') := fun W hW =>
      iht f' rfl _ _ _ t ao cap p under W (hit.keep hW) (hp.keep (KpI.of_below hW)) ht hpl (fun ts' u h1 h2 h3 => by have := itemsOf_lt h1 h2; have := hf (by omega); omega)
    clear h32 hit hp iht hts hnt hf
    go_enter Tryz.func136, Tryz.ntmps136
    go_wp2_with fail
    refine (HC.out _).mono ?_
    rintro e w1 ⟨rfl, hb1⟩
    have HB1 : Hid (Below w.heap.size w w1) := (below_alloc w _).trans (hb1.mono (by simp))
    have hx0 : w1.heap[w.heap.size]? = some (.cells #[.bool true, .string ⟨#[]⟩, .slice lo ln lc] 164 (0, 0)) := (hb1.block _ (by simp)).trans (heap_alloc_new w _)
    have z0 := cell_of_row _ _ 0 _ _ (0, 0) hx0
    have z1 := cell_of_row _ _ 1 _ _ (0, 0) hx0
    have z2 := cell_of_row _ _ 2 _ _ (0, 0) hx0
    simp only [List.getElem?_toArray, List.getElem?_cons_zero, List.getElem?_cons_succ] at z0 z1 z2
    clear hb1 hx0
    go_wp2_with fail
    refine (HTh.out _ HB1.out).mono ?_
    intro e w2 hpp
    obtain ⟨ao2, n2, cap2, rfl, hth, hb2⟩ := hpp.form
    have HX := hide (And.intro hth hb2)
    clear hpp hth hb2
    go_wp2
    go_ret2
    exact ThPost.of ao2 n2 cap2 (by rw [HR.out]; rfl) (fun m hm => ((HX.out.1 m (by rw [← HR.out]; exact hm)).2).base HB1.out.size) (HB1.out.trans (HX.out.2.mono HB1.out.size))
theorem refer_step (r f : Nat) (iht : ∀ r' f', r = r' + 1 → f = f' + 1 → ThingsOk r f') : ReferOk r f := by
  intro c0 c1 c2 t ao cap p under w hit hp ht hpl hf
  cases r with
  | zero =>
    obtain ⟨b, h1, h2⟩ := hit
    simp only [List.cons.injEq, and_true] at h2
    obtain ⟨rfl, rfl, rfl⟩ := h2
    exact referred_text _ t b ao cap p under w h1 hp
  | succ r =>
    have hit' := hit
    rcases hit with ⟨b, h1, h2⟩ | ⟨v, css, ts, h1, h2, _, _⟩
    · simp only [List.cons.injEq, and_true] at h2
      obtain ⟨rfl, rfl, rfl⟩ := h2
      exact referred_text _ t b ao cap p under w h1 hp
    · simp only [List.cons.injEq, and_true] at h2
      obtain ⟨rfl, rfl, rfl⟩ := h2
      exact referred_list r f (fun f' hf' => iht r f' rfl hf') _ t ts ao cap p under w hit' h1 hp ht hpl hf
end Go.Proofs.YthdjmldddjljfaaGreatDoor.V
namespace Go.Proofs.YthdjmldddjljfaaGreatDoor.V
open Go.RowKit
attribute [local go_sem ↓] Go.wp_at_zero Go.wp_at_succ

set_option maxHeartbeats 2000000 in
set_option maxRecDepth 20000 in
theorem things_text (f : Nat) (t b : ByteArray) (ao : Option Addr) (cap : Nat) (p : List Int) (under : Bool) (w : World) (hb : txt t = some b) :
    Calls Tryz.prog 110 #[.agg #[.bool false, .string b, .slice none 0 0], .slice ao p.length cap, .bool under] w fun e w' => ThPost (thB (parseF (f + 1) t p.length) under) p under w e w' := by
  have HR : Hid (thB (parseF (f + 1) t p.length) under = none) := by show _ = _; rw [parseF, txt_items hb]; rfl
  clear hb
  go_enter Tryz.func110, Tryz.ntmps110
  go_wp2
  go_ret2
  exact ThPost.none HR.out _ _ _ rfl (below_alloc _ _)
theorem pathed_notBr {P : ByteArray → Nat → Option Nx} {a b : ByteArray} {d : Nat} {n : Nx} (h : pathedF P a b d = some n) : n.isBr = false := by
  unfold pathedF at h
  split at h
  · cases h
  · split at h
    · cases h
    · split at h
      · cases h
      · split at h
        · unfold leafF at h
          split at h
          · cases h
          · split at h
            · cases h
            · injection h with h; subst h; rfl
        · unfold extF at h
          split at h
          · cases h
          · split at h
            · cases h
            · injection h with h; subst h; rfl
set_option maxHeartbeats 2000000 in
set_option maxRecDepth 20000 in
theorem things_odd (f : Nat) (t : ByteArray) (ts : List ByteArray) (lo : Option Addr) (lc : Nat) (ao : Option Addr) (cap : Nat) (p : List Int) (under : Bool) (w : World) (hts : itemsOf t = some ts) (ho : ts.length ≠ 17 ∧ (ts.length ≠ 2 ∨ under = true)) :
    Calls Tryz.prog 110 #[.agg #[.bool true, .string ⟨#[]⟩, .slice lo ts.length lc], .slice ao p.length cap, .bool under] w fun e w' => ThPost (thB (parseF (f + 1) t p.length) under) p under w e w' := by
  have HR : Hid (thB (parseF (f + 1) t p.length) under = none) := by
    show _ = _
    rw [parseF, hts]
    simp only
    by_cases h2 : ts.length = 2
    · rw [if_pos h2]
      rcases ho.2 with h | rfl
      · exact absurd h2 h
      · cases hp : pathedF (parseF f) (ts.getD 0 eB) (ts.getD 1 eB) p.length with
        | none => rfl
        | some n => unfold thB; simp only; rw [if_pos ⟨trivial, pathed_notBr hp⟩]
    · rw [if_neg h2, if_neg ho.1]; rfl
  have i1 : ((ts.length : Int) != 17) = true := by simp; omega
  by_cases h2 : ts.length = 2
  · obtain rfl : under = true := by rcases ho.2 with h | h; { exact absurd h2 h }; { exact h }
    have i2 : ((ts.length : Int) != 2) = false := by simp; omega
    clear hts ho h2
    go_enter Tryz.func110, Tryz.ntmps110
    go_wp2
    go_ret2
    exact ThPost.none HR.out _ _ _ rfl (below_alloc _ _)
  · have i2 : ((ts.length : Int) != 2) = true := by simp; omega
    clear hts ho h2
    go_enter Tryz.func110, Tryz.ntmps110
    go_wp2
    go_ret2
    exact ThPost.none HR.out _ _ _ rfl (below_alloc _ _)
/-- the two items of what begins with a path -/
structure Two (r : Nat) (w : World) (g : Nat) (a b : ByteArray) (l0 : Bool) (b0 : ByteArray) (o0 : Option Addr) (n0 k0 : Nat) (l1 : Bool) (b1 : ByteArray) (o1 : Option Addr) (n1 k1 : Nat) : Prop where
  c0 : w.cell? ⟨g, 0, none⟩ = some (.bool l0)
  c1 : w.cell? ⟨g, 1, none⟩ = some (.string b0)
  c2 : w.cell? ⟨g, 2, none⟩ = some (.slice o0 n0 k0)
  c3 : w.cell? ⟨g, 3, none⟩ = some (.bool l1)
  c4 : w.cell? ⟨g, 4, none⟩ = some (.string b1)
  c5 : w.cell? ⟨g, 5, none⟩ = some (.slice o1 n1 k1)
  i0 : ItB r w [.bool l0, .string b0, .slice o0 n0 k0] a
  i1 : ItB r w [.bool l1, .string b1, .slice o1 n1 k1] b
theorem Two.keep {r : Nat} {w w' : World} {g : Nat} {a b : ByteArray} {l0 : Bool} {b0 : ByteArray} {o0 : Option Addr} {n0 k0 : Nat} {l1 : Bool} {b1 : ByteArray} {o1 : Option Addr} {n1 k1 : Nat} (h : Two r w g a b l0 b0 o0 n0 k0 l1 b1 o1 n1 k1) (hb : Below w.heap.size w w') : Two r w' g a b l0 b0 o0 n0 k0 l1 b1 o1 n1 k1 := by
  have hg := World.block_lt_of_cell? w _ h.c0
  exact ⟨(hb.cell (p := ⟨g, 0, none⟩) hg).trans h.c0, (hb.cell (p := ⟨g, 1, none⟩) hg).trans h.c1, (hb.cell (p := ⟨g, 2, none⟩) hg).trans h.c2, (hb.cell (p := ⟨g, 3, none⟩) hg).trans h.c3, (hb.cell (p := ⟨g, 4, none⟩) hg).trans h.c4, (hb.cell (p := ⟨g, 5, none⟩) hg).trans h.c5, h.i0.keep hb, h.i1.keep hb⟩
theorem two_of {r : Nat} {w : World} {v : Value} {css : List (List Value)} {ts : List ByteArray} (ho : w.ownsRow 0 164 3 v css.length css.flatten) (hi : Al (ItB r w) css ts) (h2 : ts.length = 2) : ∃ g lc l0 b0 o0 n0 k0 l1 b1 o1 n1 k1, v = .slice (some ⟨g, 0, none⟩) 2 lc ∧ Two r w g (ts.getD 0 eB) (ts.getD 1 eB) l0 b0 o0 n0 k0 l1 b1 o1 n1 k1 := by
  have hl := hi.len
  obtain ⟨ao, lc, rfl⟩ : ∃ ao lc, v = .slice ao css.length lc := by
    rcases ho.2 with ⟨rfl, h0⟩ | ⟨g, c, cur, rfl, _⟩
    · exact ⟨none, 0, by rw [h0]⟩
    · exact ⟨_, _, rfl⟩
  obtain ⟨g, l0, b0, o0, n0, k0, rfl, e0', x0, x1, x2⟩ := itsB_cell ho hi (Below.refl _ _) 0 (by omega)
  obtain ⟨g', l1, b1, o1, n1, k1, hg', e1', x3, x4, x5⟩ := itsB_cell ho hi (Below.refl _ _) 1 (by omega)
  obtain rfl : g = g' := by simpa using hg'
  have i0 := al_getD hi 0 (by omega)
  have i1 := al_getD hi 1 (by omega)
  rw [e0'] at i0
  rw [e1'] at i1
  exact ⟨g, lc, l0, b0, o0, n0, k0, l1, b1, o1, n1, k1, by rw [hl, h2], ⟨x0, x1, x2, x3, x4, x5, i0, i1⟩⟩
/-- an item in memory: its text, or none -/
theorem ItB.txt {r : Nat} {w : World} {l : Bool} {b : ByteArray} {o : Option Addr} {n k : Nat} {t : ByteArray} (h : ItB r w [.bool l, .string b, .slice o n k] t) : (l = false ∧ txt t = some b) ∨ (l = true ∧ b = ⟨#[]⟩ ∧ txt t = none) := by
  cases r with
  | zero =>
    obtain ⟨b', h1, h2⟩ := h
    simp only [List.cons.injEq, Value.bool.injEq, Value.string.injEq, and_true] at h2
    obtain ⟨rfl, rfl, _⟩ := h2
    exact .inl ⟨rfl, h1⟩
  | succ r =>
    rcases h with ⟨b', h1, h2⟩ | ⟨v, css, ts, h1, h2, _⟩
    · simp only [List.cons.injEq, Value.bool.injEq, Value.string.injEq, and_true] at h2
      obtain ⟨rfl, rfl, _⟩ := h2
      exact .inl ⟨rfl, h1⟩
    · simp only [List.cons.injEq, Value.bool.injEq, Value.string.injEq, and_true] at h2
      obtain ⟨rfl, rfl, _⟩ := h2
      exact .inr ⟨rfl, rfl, items_txt h1⟩
end Go.Proofs.YthdjmldddjljfaaGreatDoor.V
namespace Go.Proofs.YthdjmldddjljfaaGreatDoor.V
open Go.RowKit
attribute [local go_sem ↓] Go.wp_at_zero Go.wp_at_succ

/-- an item's box -/
theorem itBox {w W : World} {a b c : Value} (h : Below (w.alloc (.cells #[a, b, c] 164)).heap.size (w.alloc (.cells #[a, b, c] 164)) W) : W.cell? ⟨w.heap.size, 0, none⟩ = some a ∧ W.cell? ⟨w.heap.size, 1, none⟩ = some b ∧ W.cell? ⟨w.heap.size, 2, none⟩ = some c ∧ Below w.heap.size w W := by
  have h1 : W.heap[w.heap.size]? = some (.cells #[a, b, c] 164 (0, 0)) := (h.block _ (by simp)).trans (heap_alloc_new w _)
  exact ⟨cell_of_row _ _ 0 _ _ (0, 0) h1, cell_of_row _ _ 1 _ _ (0, 0) h1, cell_of_row _ _ 2 _ _ (0, 0) h1, (below_alloc w _).trans (h.mono (by simp))⟩
set_option maxHeartbeats 4000000 in
set_option maxRecDepth 20000 in
/-- no path stands there -/
theorem two_none (r : Nat) (a b : ByteArray) (g lc : Nat) (l0 : Bool) (b0 : ByteArray) (o0 : Option Addr) (n0 k0 : Nat) (l1 : Bool) (b1 : ByteArray) (o1 : Option Addr) (n1 k1 : Nat) (ao : Option Addr) (cap : Nat) (p : List Int) (w : World) (h2 : Two r w g a b l0 b0 o0 n0 k0 l1 b1 o1 n1 k1) (hp : PSl w ao cap p) (ha : a.size ≤ 6000) (hpl : p.length ≤ 300) (hno : unpL b0.data.toList = none) (o : Option Nx) (hO : o = none) :
    Calls Tryz.prog 110 #[.agg #[.bool true, .string ⟨#[]⟩, .slice (some ⟨g, 0, none⟩) 2 lc], .slice ao p.length cap, .bool false] w fun e w' => ThPost o p false w e w' := by
  have hbz : b0.size ≤ 6000 := by
    rcases h2.i0.txt with ⟨_, h⟩ | ⟨_, h, _⟩
    · have := txt_size h; omega
    · rw [h]; decide
  have HT : Hid (∀ W, Below w.heap.size w W → Two r W g a b l0 b0 o0 n0 k0 l1 b1 o1 n1 k1) := fun W hW => h2.keep hW
  have HU := hide (fun W => rUnpack_none b0 W (by omega) hno)
  have HJ : Hid (∀ W, Below w.heap.size w W → Calls Tryz.prog 134 #[.slice ao p.length cap, .slice none 0 0] W fun e w' => ∃ v, e = .returned v ∧ NewInts W.heap.size w' v (p ++ []) ∧ Below W.heap.size W w') := fun W hW => joined_any ao none cap 0 p [] W (hp.keep (KpI.of_below hW)).ints (.inl rfl) hp.nil (fun _ => rfl) (by omega) (by simp)
  have x1 := (HT.out _ (below_alloc w (.cells #[.bool true, .string ⟨#[]⟩, .slice (some ⟨g, 0, none⟩) 2 lc] 164))).c1
  clear h2 hp hno
  go_enter Tryz.func110, Tryz.ntmps110
  go_wp2_with fail
  refine (HU.out _).mono ?_
  rintro e w1 ⟨rfl, hb1⟩
  obtain ⟨y0, y1, y2, hbw⟩ := itBox hb1
  have HB1 := hide (And.intro hb1 hbw)
  clear hb1 hbw
  go_wp2_with fail
  refine (HJ.out _ HB1.out.2).mono ?_
  rintro e w2 ⟨v, rfl, hv, hb2⟩
  obtain ⟨ao2, cap2, rfl, -⟩ := PSl.of_own hv
  obtain ⟨z0, z1, z2, hbw2⟩ := itBox (HB1.out.1.trans (hb2.mono HB1.out.1.size))
  have u0 := (HT.out w2 hbw2).c0
  have HB2 := hide hbw2
  clear hb2 hbw2 hv
  cases l0 with
  | true =>
    go_wp2
    go_ret2
    exact ThPost.none hO _ _ _ rfl HB2.out
  | false =>
    go_wp2
    go_ret2
    exact ThPost.none hO _ _ _ rfl HB2.out
theorem leaf_val (q : List Int) {b b1 : ByteArray} {n : Nat} (h : txt b = some b1) (hn : n ≤ 128) : leafF q (pval b n) = if valOk false b1 n = true then some (.leaf q b1) else none := by
  unfold pval leafF valOk
  rw [h]
  simp only
  by_cases c1 : b1.size ≤ 400 ∧ (b1.size = 0 ∨ n % 2 = 0)
  · rw [if_pos c1]
    simp only
    by_cases h0 : b1.size = 0
    · rw [if_pos h0, if_neg (by rw [decide_eq_true_eq]; rintro ⟨_, h1, _⟩; omega)]
    · rw [if_neg h0, if_pos (by rw [decide_eq_true_eq]; exact ⟨trivial, by omega, c1.1, c1.2.resolve_left h0, hn⟩)]
  · rw [if_neg c1, if_neg (by rw [decide_eq_true_eq]; rintro ⟨_, _, h2, h3, _⟩; exact c1 ⟨h2, .inr h3⟩)]
set_option maxHeartbeats 4000000 in
set_option maxRecDepth 20000 in
/-- a leaf, or what is too long -/
theorem two_leaf (r : Nat) (a b : ByteArray) (g lc : Nat) (b0 : ByteArray) (o0 : Option Addr) (n0 k0 : Nat) (l1 : Bool) (b1 : ByteArray) (o1 : Option Addr) (n1 k1 : Nat) (ao : Option Addr) (cap : Nat) (p q : List Int) (lf : Bool) (w : World) (h2 : Two r w g a b false b0 o0 n0 k0 l1 b1 o1 n1 k1) (hp : PSl w ao cap p) (ha : a.size ≤ 6000) (hpl : p.length ≤ 300) (hu : unpL b0.data.toList = some (q, lf)) (hfar : 128 < p.length + q.length ∨ lf = true)
    (o : Option Nx) (hO : o = if 128 < p.length + q.length then none else leafF q (pval b (p.length + q.length))) :
    Calls Tryz.prog 110 #[.agg #[.bool true, .string ⟨#[]⟩, .slice (some ⟨g, 0, none⟩) 2 lc], .slice ao p.length cap, .bool false] w fun e w' => ThPost o p false w e w' := by
  have hbz : b0.size ≤ 6000 := by
    rcases h2.i0.txt with ⟨_, h⟩ | ⟨h, _⟩
    · have := txt_size h; omega
    · cases h
  have hql := unpV_len hu
  have HT : Hid (∀ W, Below w.heap.size w W → Two r W g a b false b0 o0 n0 k0 l1 b1 o1 n1 k1) := fun W hW => h2.keep hW
  have HU := hide (fun W => rUnpack_full b0 W (by omega) q lf hu)
  have HJ : Hid (∀ W ao1 cap1, Below w.heap.size w W → Ints W ao1 q → (ao1 = none → cap1 = 0) → Calls Tryz.prog 134 #[.slice ao p.length cap, .slice ao1 q.length cap1] W fun e w' => ∃ v, e = .returned v ∧ NewInts W.heap.size w' v (p ++ q) ∧ Below W.heap.size W w') := fun W ao1 cap1 hW h1 h3 => joined_any ao ao1 cap cap1 p q W (hp.keep (KpI.of_below hW)).ints h1 hp.nil h3 (by omega) (by omega)
  have x1 := (HT.out _ (below_alloc w (.cells #[.bool true, .string ⟨#[]⟩, .slice (some ⟨g, 0, none⟩) 2 lc] 164))).c1
  have htx := h2.i1.txt
  clear h2 hp hu
  go_enter Tryz.func110, Tryz.ntmps110
  go_wp2_with fail
  refine (HU.out _).mono ?_
  rintro e w1 ⟨ao1, cap1, rfl, hi1, ⟨_, hz1⟩, hb1⟩
  obtain ⟨y0, y1, y2, hbw⟩ := itBox hb1
  have HJ1 := hide (HJ.out w1 ao1 cap1 hbw hi1 hz1)
  have HB1 := hide (And.intro hb1 hbw)
  clear hb1 hbw hi1 hz1
  go_wp2_with fail
  refine HJ1.out.mono ?_
  rintro e w2 ⟨v, rfl, hv, hb2⟩
  obtain ⟨ao2, cap2, rfl, hps⟩ := PSl.of_own hv
  obtain ⟨z0, z1, z2, hbw2⟩ := itBox (HB1.out.1.trans (hb2.mono HB1.out.1.size))
  have t2 := HT.out w2 hbw2
  have u0 := t2.c0
  have u3 := t2.c3
  have u4 := t2.c4
  have u5 := t2.c5
  have HB2 := hide (And.intro hbw2 hps)
  have HLn : Hid ((p ++ q).length = p.length + q.length) := List.length_append
  rw [HLn.out]
  clear hb2 hbw2 hv t2 hps
  by_cases hf : 128 < p.length + q.length
  · have HO : Hid (o = none) := by show _ = _; rw [hO, if_pos hf]
    have j1 : (128 : Int) < ((p.length + q.length : Nat) : Int) := by omega
    generalize p.length + q.length = N at *
    go_wp2
    go_ret2
    exact ThPost.none HO.out _ _ _ rfl HB2.out.1
  · obtain rfl : lf = true := by rcases hfar with h | h; { exact absurd h hf }; { exact h }
    have HO : Hid (o = if valOk l1 b1 (p.length + q.length) = true then some (.leaf q b1) else none) := by
      show _ = _
      rw [hO, if_neg hf]
      rcases htx with ⟨rfl, h⟩ | ⟨rfl, rfl, h⟩
      · exact leaf_val q h (by omega)
      · unfold pval; rw [h]; simp [leafF, valOk]
    have HVa := hide (fun W => value_any l1 b1 o1 n1 k1 ao2 (p.length + q.length) cap2 W (by omega))
    have j1 : ((p.length + q.length : Nat) : Int) ≤ 128 := by omega
    have HPS : Hid (PSl w2 ao2 cap2 (p ++ q)) := HB2.out.2
    clear hO hfar htx
    generalize hok : valOk l1 b1 (p.length + q.length) = okv at *
    generalize p.length + q.length = N at *
    go_wp2_with fail
    refine (HVa.out _).mono ?_
    rintro e w3 ⟨rfl, hb3⟩
    have HB3 := hide hb3
    clear hb3
    have HRow : Hid (∀ tb, ThRow w.heap.size ((w3.alloc tb).alloc (.cells #[.slice ao2 N cap2, .string b1, .string ⟨#[]⟩, .bool false] 118)) (.slice (some ⟨w3.heap.size + 1, 0, none⟩) 1 1) (flatX (.leaf q b1) p false)) := fun tb => by
      have h := ThRow.one (w := w3.alloc tb) (ao := ao2) (cap := cap2) (x := ⟨p ++ q, b1, eB, false⟩) (HPS.out.keep (KpI.of_below (HB3.out.alloc HB3.out.size tb)))
      simp only [HLn.out, World.size_alloc] at h
      exact h.base (by have := HB2.out.1.size; have := HB3.out.size; omega)
    have HBe : Hid (∀ tb o, Below w.heap.size w ((w3.alloc tb).alloc o)) := fun tb o => by
      have h := HB2.out.1.trans (HB3.out.mono HB2.out.1.size)
      exact (h.alloc h.size _).alloc (by have := h.size; simp; omega) _
    go_wp2_with fail
    all_goals go_ret2
    all_goals
      cases okv with
      | true => exact ThPost.some (by rw [HO.out]; rfl) _ rfl (HRow.out _) (HBe.out _ _)
      | false => exact ThPost.none (by rw [HO.out]; rfl) _ _ _ rfl (HBe.out _ _)
end Go.Proofs.YthdjmldddjljfaaGreatDoor.V
