/-
  OUR OWN: items: the reference's parts.
-/
import Derived.Test.YtoafiieciiijbaaItemS
import Derived.Test.YtoafiieciiijbaaItemK
import Derived.Test.YtoafiieciiijbaaPathJ
namespace Go.Proofs.Ytoafiieciiijbaa
open Go.RowKit
attribute [local go_sem ↓] Go.wp_at_zero Go.wp_at_succ

theorem ItIs.pos {w : World} {ok : Nat → Prop} {r : Nat} {cs : List Value} {ps : List Prt} (h : ItIs r w ok cs ps) : 0 < ps.length := by
  cases r with
  | zero => obtain ⟨b, _, rfl⟩ := h; simp
  | succ r =>
    rcases h with ⟨b, _, rfl⟩ | ⟨v, css, pss, _, _, _, _, _, rfl⟩ <;> simp

set_option maxHeartbeats 1000000 in
set_option maxRecDepth 20000 in
theorem parts_text (b : ByteArray) (w : World) :
    Calls Try.prog 32 #[.agg #[.bool false, .string b, .slice none 0 0]] w fun e w' => ∃ v, e = .returned v ∧ w'.ownsRow w.heap.size 24 3 v 1 (pcells [(false, 0, b)]) ∧ Below w.heap.size w w' := by
  go_enter Try.func32, Try.ntmps32
  go_wp2
  go_loopw [3, 4] (fun v i wr => v = .slice (some ⟨w.heap.size + 1, 0, none⟩) 1 1 ∧ i = .int .i64 0 ∧ wr = (w.alloc (.cells #[.bool false, .string b, .slice none 0 0] 66)).alloc (.cells #[.bool false, .int .i64 0, .string b] 24)) (fun _ _ _ => 0)
  case atStart => exact ⟨rfl, rfl, rfl⟩
  case round =>
    obtain ⟨rfl, rfl, rfl⟩ := hrel
    go_wp2
    go_ret
    refine ⟨_, rfl, ⟨rfl, .inr ⟨w.heap.size + 1, 1, #[.bool false, .int .i64 0, .string b], rfl, by omega, ?_, Nat.le_refl _, by decide, rfl, rfl⟩⟩, below_alloc2 _ _ _⟩
    have := heap_alloc_new (w.alloc (.cells #[.bool false, .string b, .slice none 0 0] 66)) (.cells #[.bool false, .int .i64 0, .string b] 24)
    simpa using this

/-- what a call of parts answers -/
def PartsPost (ps : List Prt) (w : World) (e : Ending) (w' : World) : Prop := ∃ v, e = .returned v ∧ w'.ownsRow w.heap.size 24 3 v ps.length (pcells ps) ∧ Below w.heap.size w w'

theorem flat_at {css : List (List Value)} (h3 : ∀ i, i < css.length → (css.getD i []).length = 3) : ∀ (q j : Nat), q < css.length → j < 3 → css.flatten[q * 3 + j]? = (css.getD q [])[j]? := by
  induction css with
  | nil => intro q j hq; simp at hq
  | cons c r ih =>
    intro q j hq hj
    have hc : c.length = 3 := h3 0 (by simp)
    cases q with
    | zero => rw [List.flatten_cons, List.getElem?_append_left (by omega)]; simp
    | succ q =>
      rw [List.flatten_cons, List.getElem?_append_right (by omega), hc, show (q + 1) * 3 + j - 3 = q * 3 + j from by omega, ih (fun i hi => by simpa using h3 (i + 1) (by simp; omega)) q j (by simpa using hq) hj]
      simp

set_option maxHeartbeats 2000000 in
set_option maxRecDepth 20000 in
theorem parts_list (r : Nat) (ih : ∀ (w : World) (ok : Nat → Prop) (c0 c1 c2 : Value) (ps : List Prt), ItIs r w ok [c0, c1, c2] ps → ps.length ≤ 6000 → Calls Try.prog 32 #[.agg #[c0, c1, c2]] w fun e w' => PartsPost ps w e w')
    (w : World) (ok : Nat → Prop) (lk : Value) (css : List (List Value)) (pss : List (List Prt)) (ho : w.ownsRow 0 66 3 lk css.length css.flatten) (hl : css.length = pss.length) (hi : ∀ i, i < css.length → ItIs r w ok (css.getD i []) (pss.getD i [])) (hlen : pss.flatten.length + 1 ≤ 6000) :
    Calls Try.prog 32 #[.agg #[.bool true, .string ⟨#[]⟩, lk]] w fun e w' => PartsPost ((true, css.length, ⟨#[]⟩) :: pss.flatten) w e w' := by
  obtain ⟨i0, hi0, hz0, hz1, hz2⟩ := info_parts info24
  obtain ⟨ao, lc, hlv⟩ : ∃ ao lc, lk = .slice ao css.length lc := by
    rcases ho.2 with ⟨rfl, h0⟩ | ⟨g, c, cur, rfl, _⟩
    · exact ⟨none, 0, by rw [h0]⟩
    · exact ⟨_, _, rfl⟩
  subst hlv
  have hml : (css.length : Int) ≤ 9223372036854775807 := by
    rcases ho.2 with ⟨_, h0⟩ | ⟨g, c, cur, _, _, _, h1, h2, _⟩
    · omega
    · unfold maxLen at h2; omega
  have HO := hide ho
  have HI := hide hi
  have HL := hide (And.intro hl hlen)
  clear ho hi hl hlen
  go_enter Try.func32, Try.ntmps32
  go_wp2_with fail
  go_loopw [3, 4] (fun v i wr => ∃ q : Nat, q ≤ css.length ∧ i = .int .i64 (q : Int) ∧ wr.ownsRow (w.heap.size + 1) 24 3 v ((pss.take q).flatten.length + 1) (pcells ((true, css.length, ⟨#[]⟩) :: (pss.take q).flatten)) ∧ Below w.heap.size w wr ∧ wr.heap[w.heap.size]? = some (.cells #[.bool true, .string ⟨#[]⟩, .slice ao css.length lc] 66 (0, 0))) (fun _ i _ => css.length - (intOf i).toNat)
  case atStart =>
    refine ⟨0, Nat.zero_le _, rfl, ⟨rfl, .inr ⟨w.heap.size + 1, 1, #[.bool true, .int .i64 (css.length : Int), .string ⟨#[]⟩], rfl, Nat.le_refl _, ?_, Nat.le_refl _, by decide, rfl, rfl⟩⟩, below_alloc2 _ _ _, ?_⟩
    · have := heap_alloc_new (w.alloc (.cells #[.bool true, .string ⟨#[]⟩, .slice ao css.length lc] 66)) (.cells #[.bool true, .int .i64 (css.length : Int), .string ⟨#[]⟩] 24)
      simpa using this
    · rw [Below.heap_alloc _ _ _ (by simp)]
      exact heap_alloc_new w _
  case round =>
    obtain ⟨q, hq, rfl, hv, hbw, hbx⟩ := hrel
    have HV := hide hv
    have HB := hide hbw
    have HX := hide hbx
    have hx2 : wr.cell? ⟨w.heap.size, 2, none⟩ = some (.slice ao css.length lc) := cell_of_row wr _ 2 _ _ (0, 0) hbx
    clear hv hbw hbx
    by_cases hlt : q < css.length
    · have cl : (q : Int) < (css.length : Int) := by omega
      obtain ⟨g, hao, hgl, hcell⟩ : ∃ g, ao = some ⟨g, 0, none⟩ ∧ g < w.heap.size ∧ ∀ j u, css.flatten[j]? = some u → w.cell? ⟨g, j, none⟩ = some u := by
        rcases HO.out.2 with ⟨_, h0⟩ | ⟨g, c, cur, hh, _, hg, _⟩
        · omega
        · injection hh with hh1 _ _
          refine ⟨g, hh1, ?_, fun j u hu => ?_⟩
          · rcases Nat.lt_or_ge g w.heap.size with h1 | h1
            · exact h1
            · rw [Array.getElem?_eq_none h1] at hg; cases hg
          · have h := HO.out.cells (g := g) (by rw [hh1]; rfl) j u hu
            rwa [addr_add, Nat.zero_add] at h
      subst hao
      have HQI := hide (HI.out q hlt)
      obtain ⟨l0, b0, ao0, lo0, lc0, hsh⟩ := HQI.out.shape
      have hat : ∀ j u, j < 3 → [Value.bool l0, .string b0, .slice ao0 lo0 lc0][j]? = some u → wr.cell? ⟨g, q * 3 + j, none⟩ = some u := by
        intro j u hj hu
        rw [HB.out.cell hgl]
        refine hcell _ _ ?_
        rw [flat_at (fun i hi => (HI.out i hi).len) q j hlt hj, hsh]
        exact hu
      have z0 : wr.cell? ⟨g, q * 3, none⟩ = some (.bool l0) := hat 0 _ (by decide) rfl
      have z1 : wr.cell? ⟨g, q * 3 + 1, none⟩ = some (.string b0) := hat 1 _ (by decide) rfl
      have z2 : wr.cell? ⟨g, q * 3 + 2, none⟩ = some (.slice ao0 lo0 lc0) := hat 2 _ (by decide) rfl
      clear hat hcell
      have HLE : Hid ((pss.take q).flatten.length + (pss.getD q []).length + 1 ≤ 6000 ∧ (pss.take (q + 1)).flatten = (pss.take q).flatten ++ pss.getD q []) := by
        have hq2 : q < pss.length := HL.out.1 ▸ hlt
        have e1 : (pss.take (q + 1)).flatten = (pss.take q).flatten ++ pss.getD q [] := by
          rw [List.take_succ_eq_append_getElem hq2, List.flatten_append]
          simp [List.getD_eq_getElem?_getD, hq2]
        refine ⟨?_, e1⟩
        have e2 : pss.flatten = (pss.take (q + 1)).flatten ++ (pss.drop (q + 1)).flatten := by rw [← List.flatten_append, List.take_append_drop]
        have h := HL.out.2
        rw [e2, e1] at h
        simp only [List.length_append] at h
        omega
      have HIT : Hid (ItIs r wr (fun _ => True) [.bool l0, .string b0, .slice ao0 lo0 lc0] (pss.getD q [])) := by
        show ItIs _ _ _ _ _
        rw [← hsh]
        exact HQI.out.keep (fun k _ hk => ⟨HB.out.block k hk, trivial⟩)
      obtain ⟨M, hM⟩ : ∃ M, M = (pss.getD q []).length := ⟨_, rfl⟩
      obtain ⟨N, hN⟩ : ∃ N, N = (pss.take q).flatten.length + 1 := ⟨_, rfl⟩
      have HMN := hide (And.intro hM hN)
      have HVN := HV.out
      rw [← hN] at HVN
      clear hM hN
      go_wp2_with fail
      refine (ih wr _ _ _ _ _ HIT.out (by have := HLE.out.1; omega)).mono ?_
      rintro e w6 ⟨vm, rfl, hm, hb6⟩
      obtain ⟨gm, cm, rfl⟩ : ∃ gm cm, vm = .slice (some ⟨gm, 0, none⟩) M cm := by
        rw [HMN.out.1]
        have hp := HIT.out.pos
        rcases hm.2 with ⟨_, h0⟩ | ⟨g, c, cur, rfl, _⟩
        · omega
        · exact ⟨_, _, rfl⟩
      have HM := hide hm
      have HB6 := hide hb6
      have HP : Hid (0 < M) := by show _ < _; rw [HMN.out.1]; exact HIT.out.pos
      have HPL : Hid ((pcells (pss.getD q [])).length = M * 3) := by show _ = _; rw [HMN.out.1]; exact pcells_length _
      have HNM : Hid (N + M ≤ 6000) := by show _ ≤ _; rw [HMN.out.1, HMN.out.2]; have := HLE.out.1; omega
      have hx6 : w6.heap[w.heap.size]? = some (.cells #[.bool true, .string ⟨#[]⟩, .slice (some ⟨g, 0, none⟩) css.length lc] 66 (0, 0)) := by
        have hlt2 : w.heap.size < wr.heap.size := by
          rcases Nat.lt_or_ge w.heap.size wr.heap.size with h1 | h1
          · exact h1
          · have := HX.out; rw [Array.getElem?_eq_none h1] at this; cases this
        rw [hb6.block _ hlt2]; exact HX.out
      have HX6 := hide hx6
      have HWL : Hid (w.heap.size < wr.heap.size) := by
        rcases Nat.lt_or_ge w.heap.size wr.heap.size with h1 | h1
        · exact h1
        · have := HX.out; rw [Array.getElem?_eq_none h1] at this; cases this
      have HV6 := hide (own_far HVN (fun k _ hk => hb6.block k hk))
      clear hm hb6 hx6
      go_wp2_with (at_builtin; go_must (refine wpList_append_lies _ rfl (.tmp 28) (.tmp 29) 22 rfl (w.heap.size + 1) 24 i0 _ 3 32 Try.underlying22 hi0 hz0 hz1 hz2 rfl (by omega) u3 N _ rfl HV6.out (⟨gm, 0, none⟩ : Addr) M cm (pcells (pss.getD q [])) (by rfl) HPL.out (HM.out.cells rfl) (by intro u hu; obtain ⟨p, _, hp⟩ := List.mem_flatMap.1 hu; simp only [pcell, List.mem_cons, List.not_mem_nil, or_false] at hp; rcases hp with rfl | rfl | rfl <;> rfl) HP.out (by have := HNM.out; unfold maxLen; omega) (by have := HNM.out; omega) (by have := HWL.out; have := HB6.out.size; omega) _ rfl ?_); intro g8 c8 w8 ho8 hg8 hat8 hlt8; have HO8 := hide ho8; have HG8 := hide hg8; clear ho8 hg8 hat8 hlt8)
      have hrow : ∀ k, u3.ownBlock = some k → w.heap.size + 1 ≤ k := own_ge HV.out (Nat.le_refl _)
      have HBF : Hid (Below w.heap.size w w8) := (HB.out.trans (HB6.out.mono HB.out.size)).grown HG8.out (Nat.le_trans HB.out.size HB6.out.size) (fun k e => by have := hrow k e; omega)
      have HXF : Hid (w8.heap[w.heap.size]? = some (.cells #[.bool true, .string ⟨#[]⟩, .slice (some ⟨g, 0, none⟩) css.length lc] 66 (0, 0))) := by
        show _ = _
        rw [HG8.out.block _ (Nat.lt_of_lt_of_le HWL.out HB6.out.size) (fun e => by have := hrow _ e.symm; omega)]
        exact HX6.out
      go_roundw
      case rel =>
        refine ⟨q + 1, by omega, by go_num, ?_, HBF.out, HXF.out⟩
        have e1 : (pss.take (q + 1)).flatten.length + 1 = N + M := by rw [HLE.out.2, HMN.out.1, HMN.out.2, List.length_append]; omega
        rw [e1, HLE.out.2, ← List.cons_append, pcells_append]
        exact HO8.out
      case measure => simp [intOf]; omega
    · have hqe : q = css.length := by omega
      have cl : decide ((q : Int) < (css.length : Int)) = false := by simp; omega
      go_wp2_with fail
      go_ret
      refine ⟨_, rfl, ?_, HB.out⟩
      have h := HV.out
      rw [hqe, HL.out.1, List.take_length] at h
      rw [HL.out.1]
      exact own_base h (Nat.le_succ _)
end Go.Proofs.Ytoafiieciiijbaa
