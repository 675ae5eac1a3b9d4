/-
  OUR OWN: codes: the reference's depth and Code.
-/
import Derived.Test.YtoafiieciiijbaaEncI
import Derived.Test.YtoafiieciiijbaaItemT
namespace Go.Proofs.Ytoafiieciiijbaa
open Go.RowKit
attribute [local go_sem ↓] Go.wp_at_zero Go.wp_at_succ

/-- the items of a list in memory, one by one -/
theorem its_cell {w wr : World} {ao : Option Addr} {lc r : Nat} {ok : Nat → Prop} {css : List (List Value)} {pss : List (List Prt)} (ho : w.ownsRow 0 66 3 (.slice ao css.length lc) css.length css.flatten)
    (hi : ∀ i, i < css.length → ItIs r w ok (css.getD i []) (pss.getD i [])) (hb : Below w.heap.size w wr) (q : Nat) (hlt : q < css.length) :
    ∃ g l0 b0 ao0 lo0 lc0, ao = some ⟨g, 0, none⟩ ∧ css.getD q [] = [.bool l0, .string b0, .slice ao0 lo0 lc0] ∧ wr.cell? ⟨g, q * 3, none⟩ = some (.bool l0) ∧ wr.cell? ⟨g, q * 3 + 1, none⟩ = some (.string b0) ∧ wr.cell? ⟨g, q * 3 + 2, none⟩ = some (.slice ao0 lo0 lc0) := by
  obtain ⟨g, hao, hgl, hcell⟩ : ∃ g, ao = some ⟨g, 0, none⟩ ∧ g < w.heap.size ∧ ∀ j u, css.flatten[j]? = some u → w.cell? ⟨g, j, none⟩ = some u := by
    rcases ho.2 with ⟨_, h0⟩ | ⟨g, c, cur, hh, _, hg, _⟩
    · omega
    · injection hh with hh1 _ _
      refine ⟨g, hh1, ?_, fun j u hu => ?_⟩
      · rcases Nat.lt_or_ge g w.heap.size with h1 | h1
        · exact h1
        · rw [Array.getElem?_eq_none h1] at hg; cases hg
      · have h := ho.cells (g := g) (by rw [hh1]; rfl) j u hu
        rwa [addr_add, Nat.zero_add] at h
  obtain ⟨l0, b0, ao0, lo0, lc0, hsh⟩ := (hi q hlt).shape
  have hat : ∀ j u, j < 3 → [Value.bool l0, .string b0, .slice ao0 lo0 lc0][j]? = some u → wr.cell? ⟨g, q * 3 + j, none⟩ = some u := by
    intro j u hj hu
    rw [hb.cell (p := ⟨g, q * 3 + j, none⟩) hgl]
    refine hcell _ _ ?_
    rw [flat_at (fun i hi' => (hi i hi').len) q j hlt hj, hsh]
    exact hu
  exact ⟨g, l0, b0, ao0, lo0, lc0, hao, hsh, hat 0 _ (by decide) rfl, hat 1 _ (by decide) rfl, hat 2 _ (by decide) rfl⟩

/-- the first items' values -/
def Vs {T : Type} (txt : ByteArray → T) (lst : List T → T) (pss : List (List Prt)) (q : Nat) (xs : List T) : Prop := xs.length = q ∧ ∀ (i : Nat) p x, i < q → pss[i]? = some p → xs[i]? = some x → Vl txt lst p x
theorem Vs.snoc {T : Type} {txt : ByteArray → T} {lst : List T → T} {pss : List (List Prt)} {q : Nat} {xs : List T} (h : Vs txt lst pss q xs) (hq : q < pss.length) {x : T} (hx : Vl txt lst (pss.getD q []) x) : Vs txt lst pss (q + 1) (xs ++ [x]) := by
  refine ⟨by simp [h.1], fun i p y hi hp hy => ?_⟩
  by_cases hlt : i < q
  · rw [List.getElem?_append_left (by rw [h.1]; exact hlt)] at hy
    exact h.2 i p y hlt hp hy
  · obtain rfl : i = q := by omega
    rw [List.getElem?_append_right (by rw [h.1]; exact Nat.le_refl _), h.1, Nat.sub_self] at hy
    obtain rfl : x = y := by simpa using hy
    have e : pss.getD i [] = p := by simp [List.getD_eq_getElem?_getD, hp]
    rw [← e]; exact hx
theorem Vs.all {T : Type} {txt : ByteArray → T} {lst : List T → T} {pss : List (List Prt)} {xs : List T} (h : Vs txt lst pss pss.length xs) : Vl txt lst ((true, pss.length, ⟨#[]⟩) :: pss.flatten) (lst xs) :=
  Vl.list txt lst pss xs h.1.symm (fun i q x h1 h2 => h.2 i q x (List.getElem?_eq_some_iff.1 h1).1 h1 h2)

def DepPost (r : Nat) (qs : List Prt) (w : World) (e : Ending) (w' : World) : Prop := ∃ m : Nat × Nat, Vl msT msL qs m ∧ m.2 ≤ r ∧ e = .returned (.int .i64 (m.2 : Int)) ∧ Below w.heap.size w w'
theorem maxM_append (ms : List (Nat × Nat)) (m : Nat × Nat) : maxM (ms ++ [m]) = max (maxM ms) m.2 := by simp [maxM]

set_option maxRecDepth 20000 in
theorem depth_text (r : Nat) (b : ByteArray) (w : World) :
    Calls Try.prog 28 #[.agg #[.bool false, .string b, .slice none 0 0]] w fun e w' => DepPost r [(false, 0, b)] w e w' := by
  have HV : Hid (Vl msT msL [(false, 0, b)] (msT b)) := Vl.text msT msL b
  go_enter Try.func28, Try.ntmps28
  go_wp2
  go_ret
  exact ⟨msT b, HV.out, Nat.zero_le _, rfl, below_alloc _ _⟩

set_option maxHeartbeats 2000000 in
set_option maxRecDepth 20000 in
theorem depth_list (r : Nat) (hr : r ≤ 1000) (ih : ∀ (w : World) (ok : Nat → Prop) (c0 c1 c2 : Value) (ps : List Prt), ItIs r w ok [c0, c1, c2] ps → Calls Try.prog 28 #[.agg #[c0, c1, c2]] w fun e w' => DepPost r ps w e w')
    (w : World) (ok : Nat → Prop) (lk : Value) (css : List (List Value)) (pss : List (List Prt)) (ho : w.ownsRow 0 66 3 lk css.length css.flatten) (hok : ∀ g, lk.ownBlock = some g → ok g) (hl : css.length = pss.length) (hi : ∀ i, i < css.length → ItIs r w ok (css.getD i []) (pss.getD i [])) :
    Calls Try.prog 28 #[.agg #[.bool true, .string ⟨#[]⟩, lk]] w fun e w' => DepPost (r + 1) ((true, css.length, ⟨#[]⟩) :: pss.flatten) w e w' := by
  obtain ⟨ao, lc, hlv⟩ : ∃ ao lc, lk = .slice ao css.length lc := by
    rcases ho.2 with ⟨rfl, h0⟩ | ⟨g, c, cur, rfl, _⟩
    · exact ⟨none, 0, by rw [h0]⟩
    · exact ⟨_, _, rfl⟩
  subst hlv
  have hml : (css.length : Int) ≤ 9223372036854775807 := by
    rcases ho.2 with ⟨_, h0⟩ | ⟨g, c, cur, _, _, _, h1, h2, _⟩
    · omega
    · unfold maxLen at h2; omega
  have HO := hide ho
  have HI := hide hi
  have HL := hide hl
  have HX0 : Hid ((w.alloc (.cells #[.bool true, .string ⟨#[]⟩, .slice ao css.length lc] 66)).heap[w.heap.size]? = some (.cells #[.bool true, .string ⟨#[]⟩, .slice ao css.length lc] 66 (0, 0))) := heap_alloc_new w _
  have HB0 : Hid (Below w.heap.size w (w.alloc (.cells #[.bool true, .string ⟨#[]⟩, .slice ao css.length lc] 66))) := below_alloc w _
  clear ho hi hl hok
  go_enter Try.func28, Try.ntmps28
  go_wp2_with fail
  generalize World.alloc w _ = W0 at *
  go_loopw [3, 4] (fun nv i wr => ∃ (q : Nat) (ms : List (Nat × Nat)), q ≤ css.length ∧ i = .int .i64 (q : Int) ∧ nv = .int .i64 (maxM ms : Int) ∧ Vs msT msL pss q ms ∧ maxM ms ≤ r ∧ Below w.heap.size w wr ∧ wr.heap[w.heap.size]? = some (.cells #[.bool true, .string ⟨#[]⟩, .slice ao css.length lc] 66 (0, 0))) (fun _ i _ => css.length - (intOf i).toNat)
  case atStart => exact ⟨0, [], Nat.zero_le _, rfl, rfl, ⟨rfl, fun i p x h => by omega⟩, Nat.zero_le _, HB0.out, HX0.out⟩
  case round =>
    obtain ⟨q, ms, hq, rfl, rfl, hv, hmr, hbw, hbx⟩ := hrel
    have HV := hide hv
    have HB := hide hbw
    have HX := hide hbx
    have hx2 : wr.cell? ⟨w.heap.size, 2, none⟩ = some (.slice ao css.length lc) := cell_of_row wr _ 2 _ _ (0, 0) hbx
    clear hv hbw hbx
    by_cases hlt : q < css.length
    · have cl : (q : Int) < (css.length : Int) := by omega
      obtain ⟨g, l0, b0, ao0, lo0, lc0, rfl, hsh, z0, z1, z2⟩ := its_cell HO.out HI.out HB.out q hlt
      have HQI := hide (HI.out q hlt)
      rw [hsh] at HQI
      have HC := hide (ih wr ok _ _ _ _ (HQI.out.keep (fun k hk hlt => ⟨HB.out.block k hlt, hk⟩)))
      clear hsh
      go_wp2_with fail
      refine HC.out.mono ?_
      rintro e w2 ⟨m, hvm, hm2, rfl, hb2⟩
      have HVm := hide (HV.out.snoc (by have := HL.out; omega) hvm)
      have HB2 : Hid (Below w.heap.size w w2) := HB.out.trans (hb2.mono HB.out.size)
      have HX2 : Hid (w2.heap[w.heap.size]? = some (.cells #[.bool true, .string ⟨#[]⟩, .slice (some ⟨g, 0, none⟩) css.length lc] 66 (0, 0))) := by
        show _ = _
        rw [hb2.block _ (Array.getElem?_eq_some_iff.1 HX.out).1]; exact HX.out
      have HMA := hide (maxM_append ms m)
      clear hvm hb2
      generalize hDD : maxM ms = D at *
      obtain ⟨x, y⟩ := m
      simp only at hm2 HMA
      have d0 : (0 : Int) ≤ (D : Int) := by omega
      by_cases hdy : D < y
      · have e1 : max D y = y := by omega
        rw [e1] at HMA
        have d1 : (D : Int) < (y : Int) := by omega
        go_wp2
        go_roundw
        case rel => exact ⟨q + 1, ms ++ [(x, y)], by omega, by go_num, by rw [HMA.out], HVm.out, by rw [HMA.out]; exact hm2, HB2.out, HX2.out⟩
        case measure => simp [intOf]; omega
      · have e1 : max D y = D := by omega
        rw [e1] at HMA
        have d1 : (y : Int) ≤ (D : Int) := by omega
        go_wp2
        go_roundw
        case rel => exact ⟨q + 1, ms ++ [(x, y)], by omega, by go_num, by rw [HMA.out], HVm.out, by rw [HMA.out]; exact hmr, HB2.out, HX2.out⟩
        case measure => simp [intOf]; omega
    · obtain rfl : q = css.length := by omega
      have hv2 := HV.out
      rw [HL.out] at hv2
      have HVA := hide hv2.all
      clear hv2
      have HE : Hid ((msL ms).2 = maxM ms + 1) := rfl
      rw [← HL.out] at HVA
      generalize maxM ms = D at *
      have d2 : (D : Int) ≤ 1000 := by omega
      go_wp2
      go_ret
      exact ⟨msL ms, HVA.out, by rw [HE.out]; omega, by rw [HE.out]; go_num, HB.out⟩
theorem depth_any : ∀ (r : Nat), r ≤ 1000 → ∀ (w : World) (ok : Nat → Prop) (c0 c1 c2 : Value) (ps : List Prt), ItIs r w ok [c0, c1, c2] ps → Calls Try.prog 28 #[.agg #[c0, c1, c2]] w fun e w' => DepPost r ps w e w'
  | 0, _, w, ok, c0, c1, c2, ps, h => by
    obtain ⟨b, h1, rfl⟩ := h
    simp only [List.cons.injEq, and_true] at h1
    obtain ⟨rfl, rfl, rfl⟩ := h1
    exact depth_text 0 b w
  | r + 1, hr, w, ok, c0, c1, c2, ps, h => by
    rcases h with ⟨b, h1, rfl⟩ | ⟨v, css, pss, h1, ho, hok, hl, hi, rfl⟩
    · simp only [List.cons.injEq, and_true] at h1
      obtain ⟨rfl, rfl, rfl⟩ := h1
      exact depth_text (r + 1) b w
    · simp only [List.cons.injEq, and_true] at h1
      obtain ⟨rfl, rfl, rfl⟩ := h1
      exact depth_list r (by omega) (depth_any r (by omega)) w ok _ css pss ho hok hl hi
end Go.Proofs.Ytoafiieciiijbaa
