/-
  OUR OWN: OrF.
-/
import Derived.Test.YtgepjjebjhidiaaGreatDoorG41
import Derived.Test.YtgepjjebjhidiaaGreatDoorG36
namespace Go.Proofs.YtgepjjebjhidiaaGreatDoor
open Go.RowKit
attribute [local go_sem ↓] Go.wp_at_zero Go.wp_at_succ

def othB : ByteArray := ⟨#[111, 116, 104, 101, 114]⟩
/-- one swap: what the walk reads, and what comes of it -/
structure OrdF (w : World) (B B1 T M T2 M2 : Nat) (okx : Nat → Prop) (nx ny : Nd) (m : List Pr) (g o cap i k : Nat) (W : World) : Prop where
  k0 : W.cell? ⟨g, o + k * 2, none⟩ = some (.string (m.getD k pr0).1)
  k1 : W.cell? ⟨g, o + k * 2 + 1, none⟩ = some (.string (m.getD k pr0).2)
  i0 : (W.alloc (.cells #[.string (m.getD k pr0).1, .string (m.getD k pr0).2] 32)).cell? ⟨g, o + i * 2, none⟩ = some (.string (m.getD i pr0).1)
  i1 : (W.alloc (.cells #[.string (m.getD k pr0).1, .string (m.getD k pr0).2] 32)).cell? ⟨g, o + i * 2 + 1, none⟩ = some (.string (m.getD i pr0).2)
  a0 : (W.alloc (.cells #[.string (m.getD k pr0).1, .string (m.getD k pr0).2] 32)).cell? ⟨g, o + k * 2, none⟩ = some (.string (m.getD k pr0).1)
  a1 : (W.alloc (.cells #[.string (m.getD k pr0).1, .string (m.getD k pr0).2] 32)).cell? ⟨g, o + k * 2 + 1, none⟩ = some (.string (m.getD k pr0).2)
  f0 : ∀ j, (W.alloc (.cells #[.string (m.getD k pr0).1, .string (m.getD k pr0).2] 32)).frozen? ⟨g, j, none⟩ = false
  b0 : (((W.alloc (.cells #[.string (m.getD k pr0).1, .string (m.getD k pr0).2] 32)).setCell ⟨g, o + k * 2, none⟩ (.string (m.getD i pr0).1)).setCell ⟨g, o + k * 2 + 1, none⟩ (.string (m.getD i pr0).2)).cell? ⟨W.heap.size, 0, none⟩ = some (.string (m.getD k pr0).1)
  b1 : (((W.alloc (.cells #[.string (m.getD k pr0).1, .string (m.getD k pr0).2] 32)).setCell ⟨g, o + k * 2, none⟩ (.string (m.getD i pr0).1)).setCell ⟨g, o + k * 2 + 1, none⟩ (.string (m.getD i pr0).2)).cell? ⟨W.heap.size, 1, none⟩ = some (.string (m.getD k pr0).2)
  c0 : (((W.alloc (.cells #[.string (m.getD k pr0).1, .string (m.getD k pr0).2] 32)).setCell ⟨g, o + k * 2, none⟩ (.string (m.getD i pr0).1)).setCell ⟨g, o + k * 2 + 1, none⟩ (.string (m.getD i pr0).2)).cell? ⟨g, o + i * 2, none⟩ = some (.string (m.getD i pr0).1)
  c1 : (((W.alloc (.cells #[.string (m.getD k pr0).1, .string (m.getD k pr0).2] 32)).setCell ⟨g, o + k * 2, none⟩ (.string (m.getD i pr0).1)).setCell ⟨g, o + k * 2 + 1, none⟩ (.string (m.getD i pr0).2)).cell? ⟨g, o + i * 2 + 1, none⟩ = some (.string (m.getD i pr0).2)
  f1 : ∀ j, (((W.alloc (.cells #[.string (m.getD k pr0).1, .string (m.getD k pr0).2] 32)).setCell ⟨g, o + k * 2, none⟩ (.string (m.getD i pr0).1)).setCell ⟨g, o + k * 2 + 1, none⟩ (.string (m.getD i pr0).2)).frozen? ⟨g, j, none⟩ = false
  d0 : (((((W.alloc (.cells #[.string (m.getD k pr0).1, .string (m.getD k pr0).2] 32)).setCell ⟨g, o + k * 2, none⟩ (.string (m.getD i pr0).1)).setCell ⟨g, o + k * 2 + 1, none⟩ (.string (m.getD i pr0).2)).setCell ⟨g, o + i * 2, none⟩ (.string (m.getD k pr0).1)).setCell ⟨g, o + i * 2 + 1, none⟩ (.string (m.getD k pr0).2)).cell? ⟨W.heap.size, 0, none⟩ = some (.string (m.getD k pr0).1)
  d1 : (((((W.alloc (.cells #[.string (m.getD k pr0).1, .string (m.getD k pr0).2] 32)).setCell ⟨g, o + k * 2, none⟩ (.string (m.getD i pr0).1)).setCell ⟨g, o + k * 2 + 1, none⟩ (.string (m.getD i pr0).2)).setCell ⟨g, o + i * 2, none⟩ (.string (m.getD k pr0).1)).setCell ⟨g, o + i * 2 + 1, none⟩ (.string (m.getD k pr0).2)).cell? ⟨W.heap.size, 1, none⟩ = some (.string (m.getD k pr0).2)
  os : OS w B B1 T M T2 M2 okx nx ny (swapL m i k) (.slice (some ⟨g, o, none⟩) m.length cap) (((((W.alloc (.cells #[.string (m.getD k pr0).1, .string (m.getD k pr0).2] 32)).setCell ⟨g, o + k * 2, none⟩ (.string (m.getD i pr0).1)).setCell ⟨g, o + k * 2 + 1, none⟩ (.string (m.getD i pr0).2)).setCell ⟨g, o + i * 2, none⟩ (.string (m.getD k pr0).1)).setCell ⟨g, o + i * 2 + 1, none⟩ (.string (m.getD k pr0).2))
theorem ordF {w : World} {B B1 T M T2 M2 g o cap i k : Nat} {okx : Nat → Prop} {nx ny : Nd} {m : List Pr} {W : World} (D : Ds w B T M T2 M2) (hB : w.heap.size ≤ B) (h : OS w B B1 T M T2 M2 okx nx ny m (.slice (some ⟨g, o, none⟩) m.length cap) W) (hi : i < m.length) (hk : k < m.length) : OrdF w B B1 T M T2 M2 okx nx ny m g o cap i k W := by
  have prs : ∀ {m : List Pr} {W : World}, OS w B B1 T M T2 M2 okx nx ny m (.slice (some ⟨g, o, none⟩) m.length cap) W → (∀ j, j < m.length → W.cell? ⟨g, o + j * 2, none⟩ = some (.string (m.getD j pr0).1) ∧ W.cell? ⟨g, o + j * 2 + 1, none⟩ = some (.string (m.getD j pr0).2)) ∧ (∀ j, W.frozen? ⟨g, j, none⟩ = false) ∧ g < W.heap.size := fun {m W} h => by
    obtain ⟨ao', cap', ev, ms, _, _, mp⟩ := h.row.form
    obtain ⟨rfl, _, rfl⟩ : some ⟨g, o, none⟩ = ao' ∧ m.length = m.length ∧ cap = cap' := by simpa using ev
    obtain ⟨_, _, cur, hc⟩ := ms _ rfl
    have hc : W.heap[g]? = some (.cells cur 32 (0, 0)) := hc
    refine ⟨fun j hj => ?_, fun j => frozen_of_row _ _ _ _ _ hc, (Array.getElem?_eq_some_iff.1 hc).1⟩
    obtain ⟨g', o', e, c1, c2⟩ := mp j hj
    obtain ⟨rfl, rfl⟩ : g = g' ∧ o = o' := by simpa using e
    exact ⟨c1, c2⟩
  generalize hO : (Obj.cells #[.string (m.getD k pr0).1, .string (m.getD k pr0).2] 32 : Obj) = O
  have h9 := h.keep (below_alloc W O)
  have h10 := h9.set2 D hB hk (m.getD i pr0)
  have hl10 : m.length = (m.set k (m.getD i pr0)).length := by rw [List.length_set]
  have h10' := h10
  rw [hl10] at h10'
  have h11 := h10'.set2 D hB (k := i) (by rw [← hl10]; exact hi) (m.getD k pr0)
  rw [← hl10] at h11
  obtain ⟨p1, _, hgl⟩ := prs h
  obtain ⟨p9, f9, _⟩ := prs h9
  obtain ⟨p10, f10, _⟩ := prs h10'
  have ei : (m.set k (m.getD i pr0)).getD i pr0 = m.getD i pr0 := by
    by_cases e : i = k
    · subst e; simp [List.getD_eq_getElem?_getD, hi]
    · rw [List.getD_eq_getElem?_getD, List.getD_eq_getElem?_getD, List.getElem?_set_ne (fun e' => e e'.symm)]
  have q10 := p10 i (by rw [← hl10]; exact hi)
  rw [ei] at q10
  have hnew : (W.alloc O).cell? ⟨W.heap.size, 0, none⟩ = some (.string (m.getD k pr0).1) ∧ (W.alloc O).cell? ⟨W.heap.size, 1, none⟩ = some (.string (m.getD k pr0).2) := by
    have hn := heap_alloc_new W O
    rw [← hO] at hn ⊢
    exact ⟨cell_of_row _ _ 0 _ _ (0, 0) hn, cell_of_row _ _ 1 _ _ (0, 0) hn⟩
  have far : ∀ (V : World) (a b j : Nat) (x y : Value), ((V.setCell ⟨g, a, none⟩ x).setCell ⟨g, b, none⟩ y).cell? ⟨W.heap.size, j, none⟩ = V.cell? ⟨W.heap.size, j, none⟩ := fun V a b j x y => by
    rw [cell_other (fun e _ => by omega), cell_other (fun e _ => by omega)]
  subst hO
  exact ⟨(p1 k hk).1, (p1 k hk).2, (p9 i hi).1, (p9 i hi).2, (p9 k hk).1, (p9 k hk).2, f9, by rw [far]; exact hnew.1, by rw [far]; exact hnew.2, q10.1, q10.2, f10, by rw [far, far]; exact hnew.1, by rw [far, far]; exact hnew.2, h11⟩
theorem ord_next {m : List Pr} {ny : Nd} {ks : List ByteArray} {i k : Nat} (hap : Apart m) (hik : i ≤ k) (hk : k < m.length) (hw : ny.WF) (hhas : Has ny (m.take i)) (hsup : Sup ny (fun x => x ∈ ks ∨ ∃ p ∈ m.take i, p.1 = x)) :
    Has (ny.set (pathN (m.getD k pr0).1) (m.getD k pr0).2) ((swapL m i k).take (i + 1)) ∧ Sup (ny.set (pathN (m.getD k pr0).1) (m.getD k pr0).2) (fun x => x ∈ ks ∨ ∃ p ∈ (swapL m i k).take (i + 1), p.1 = x) := by
  have hs : Apart ((swapL m i k).take (i + 1)) := (hap.perm (swap_perm (by omega) hk)).sublist (List.take_sublist _ _)
  rw [swap_take hik hk] at hs ⊢
  refine ⟨hhas.set hw _ (fun q hq => (List.pairwise_append.1 hs).2.2 q hq _ (by simp)), hsup.set hw _ _ (fun x hx => ?_) (.inr ⟨_, by simp, rfl⟩)⟩
  rcases hx with hx | ⟨p, hp, e⟩
  · exact .inl hx
  · exact .inr ⟨p, List.mem_append_left _ hp, e⟩
theorem ord_drop {m : List Pr} {ny : Nd} {ks : List ByteArray} {j : Nat} (hap : Apart m) (hb : ∀ p ∈ m, p.2.size ≠ 0) (hj : j < ks.length) (hw : ny.WF) (hv : (valueL m (ks.getD j e0)).size = 0) (hhas : Has ny m) (hsup : Sup ny (fun x => (x ∈ ks.drop j ∧ (valueL m x).size = 0) ∨ ∃ p ∈ m, p.1 = x)) :
    Has (ny.drop (pathN (ks.getD j e0))) m ∧ Sup (ny.drop (pathN (ks.getD j e0))) (fun x => (x ∈ ks.drop (j + 1) ∧ (valueL m x).size = 0) ∨ ∃ p ∈ m, p.1 = x) := by
  refine ⟨hhas.drop hw _ (fun q hq e => hb q hq (by rw [← hap.value q hq, e]; exact hv)), fun r hr => ?_⟩
  rw [look_drop hw (pathN_lt _)] at hr
  by_cases e : pathN (ks.getD j e0) = r
  · rw [if_pos e] at hr; exact absurd rfl hr
  · rw [if_neg e] at hr
    obtain ⟨x, hx, rfl⟩ := hsup r hr
    refine ⟨x, ?_, rfl⟩
    rcases hx with ⟨hx, hx2⟩ | hx
    · have ed : ks.drop j = ks.getD j e0 :: ks.drop (j + 1) := by
        rw [List.drop_eq_getElem_cons hj, List.getD_eq_getElem?_getD, List.getElem?_eq_getElem hj]; rfl
      rw [ed] at hx
      rcases List.mem_cons.1 hx with rfl | hx
      · exact absurd rfl e
      · exact .inl ⟨hx, hx2⟩
    · exact .inr hx
theorem ord_stay {m : List Pr} {ny : Nd} {ks : List ByteArray} {j : Nat} (hj : j < ks.length) (hv : (valueL m (ks.getD j e0)).size ≠ 0) (hsup : Sup ny (fun x => (x ∈ ks.drop j ∧ (valueL m x).size = 0) ∨ ∃ p ∈ m, p.1 = x)) :
    Sup ny (fun x => (x ∈ ks.drop (j + 1) ∧ (valueL m x).size = 0) ∨ ∃ p ∈ m, p.1 = x) := fun r hr => by
  obtain ⟨x, hx, rfl⟩ := hsup r hr
  refine ⟨x, ?_, rfl⟩
  rcases hx with ⟨hx, hx2⟩ | hx
  · have ed : ks.drop j = ks.getD j e0 :: ks.drop (j + 1) := by
      rw [List.drop_eq_getElem_cons hj, List.getD_eq_getElem?_getD, List.getElem?_eq_getElem hj]; rfl
    rw [ed] at hx
    rcases List.mem_cons.1 hx with rfl | hx
    · exact absurd hx2 hv
    · exact .inl ⟨hx, hx2⟩
  · exact .inr hx
/-- numbers in memory -/
def Ords (w : World) (co : Option Addr) (zs : List Int) : Prop := ∀ i, i < zs.length → ∃ g o, co = some ⟨g, o, none⟩ ∧ w.cell? ⟨g, o + i, none⟩ = some (.int .i64 (zs.getD i 0))
theorem Ords.keep {w w' : World} {co : Option Addr} {zs : List Int} (h : Ords w co zs) (hb : Below w.heap.size w w') : Ords w' co zs := fun i hi => by
  obtain ⟨g, o, e, c⟩ := h i hi
  exact ⟨g, o, e, (hb.cell (p := ⟨g, o + i, none⟩) (World.block_lt_of_cell? w _ c)).trans c⟩
theorem told_tok {n : Nd} (h : TOk n) : StOk (toldOf [] n) := fun p hp => told_ok (S := []) (fun p hp => by simp at hp) h.cb (List.prefix_refl _) p (List.mem_append_right _ hp)
theorem holds_nil {n : Nd} {m : List Pr} (h : Holds n m) (hw : n.WF) : (n = .nil ↔ m.length = 0) := by
  constructor
  · intro e
    have hf := h.flat hw
    rw [e] at hf
    have : m.map (fun p => (pathN p.1, p.2)) = [] := hf.symm
    rw [List.map_eq_nil_iff] at this
    rw [this]; rfl
  · intro e
    by_cases hn : n = .nil
    · exact hn
    · have := (sz_flat n [] hw hn).1
      rw [h.flat hw, List.length_map] at this
      omega
set_option maxHeartbeats 16000000 in
set_option maxRecDepth 20000 in
theorem orders_walk (ao bo co : Option Addr) (cap bcap ccap : Nat) (raw : List Pr) (other : List ByteArray) (order : List Int) (w : World) (hT : TbZ w) (h3 : 3 ≤ w.heap.size) (hraw : Prs w ao raw) (hrl : raw.length ≤ 8796093021952) (hrs : ∀ p ∈ raw, p.1.size ≤ 9223372036854775807 ∧ p.2.size ≤ 9223372036854775807)
    (hoth : Kys w bo other) (hol : other.length ≤ 8796093021952) (hos : ∀ k ∈ other, k.size ≤ 9223372036854775807) (hord : Ords w co order) (hrdl : order.length ≤ 8796093021952000) (hrdb : ∀ z ∈ order, -9223372036854775808 ≤ z ∧ z ≤ 9223372036854775807) :
    Calls Tryz.prog 4 #[.slice ao raw.length cap, .slice bo other.length bcap, .slice co order.length ccap] w fun e w' => e = .returned (.bool true) ∧ Below w.heap.size w w' := by
  have HTb := hide hT
  have HG := hide (kGrown_any w hT h3)
  have HN := hide (fun W => cNew_none HkC W)
  have HRaw := hide hraw
  have HOth := hide hoth
  have HOrd := hide hord
  have HRs := hide hrs
  have HOs := hide hos
  have HRb := hide hrdb
  clear hT hraw hoth hord hrs hos hrdb
  go_enter Tryz.func4, Tryz.ntmps4
  go_wp2_with fail
  refine HG.out.mono ?_
  rintro e w0 ⟨⟨T0, rfl⟩, hb0⟩
  unfold ptr at *
  go_wp2_with fail
  refine (HN.out _).mono ?_
  rintro e W1 ⟨T, M, rfl, nx⟩
  unfold ptr at *
  go_wp2_with fail
  refine (HN.out _).mono ?_
  rintro e W2 ⟨T2, M2, rfl, ny⟩
  have hb2 : Below w.heap.size w W2 := (hb0.trans (nx.2.2.2.2.2.2.mono hb0.size)).trans (ny.2.2.2.2.2.2.mono (Nat.le_trans hb0.size nx.2.2.2.2.2.2.size))
  obtain ⟨B, hB⟩ : ∃ B, B = W2.heap.size := ⟨_, rfl⟩
  have HD : Hid (Ds w B T M T2 M2) := by
    obtain ⟨a1, a2, a3, a4, a5, a6, a7⟩ := nx
    obtain ⟨c1, c2, c3, c4, c5, c6, c7⟩ := ny
    have s0 := hb0.size
    have s1 := a7.size
    have s2 := c7.size
    have t1 := a6.lt
    have t2 := c6.lt
    exact ⟨⟨by omega, by omega⟩, ⟨by omega, by omega⟩, ⟨by omega, by omega⟩, ⟨by omega, by omega⟩, by omega, by omega, by omega, by omega⟩
  have HX2 : Hid (Tr B T M [] .nil (fun _ => False) W2) := (Tr.start nx (by rw [hB]; exact ny.2.2.2.2.2.2.size)).keep ny.2.2.2.2.2.2
  have HY2 : Hid (Tr B T2 M2 [] .nil (fun _ => False) W2) := Tr.start ny (by omega)
  have HB2 := hide hb2
  have hBw : w.heap.size ≤ B := by rw [hB]; exact hb2.size
  have HSm := hide (small_any ao cap raw W2 (HRaw.out.keep hb2) (by omega) HRs.out)
  clear nx ny hb2 hb0 HG HN
  unfold ptr at *
  go_wp2_with fail
  refine HSm.out.mono ?_
  rintro e W3 ⟨lv, rfl, hl1, hbl⟩
  have hst0 : OO w B T M T2 M2 (smallL raw) lv .nil [] (.slice none 0 0) W3 := ⟨HB2.out.trans (hbl.mono HB2.out.size), by rw [hB]; exact hbl.size, ⟨_, HX2.out.keep hbl, fun a n c e => by cases e⟩, HY2.out.keep hbl, RowAt.nil _ _, RowAt.own hl1 (by omega)⟩
  have HLb := hide (smallL_bound raw)
  have HLl := hide (smallL_len raw)
  generalize smallL raw = l at *
  obtain ⟨lo, lcap, rfl, _⟩ := own_slice hl1
  have HS0 : Hid (OO w B T M T2 M2 l (.slice lo l.length lcap) .nil [] (.slice none 0 0) W3) := hst0
  have hll : l.length ≤ 60 := HLl.out
  clear hl1 hbl hst0 HSm HX2 HY2 hB
  go_wp2_with fail
  go_loopw [13, 14] (fun mv iv wr => ∃ i : Nat, i ≤ l.length ∧ iv = .int .i64 (i : Int) ∧ OO w B T M T2 M2 l (.slice lo l.length lcap) (setAll .nil (l.take i)) (mapL [] (l.take i)) mv wr) (fun _ iv _ => l.length - (intOf iv).toNat)
  case atStart => exact ⟨0, by omega, rfl, HS0.out⟩
  case round =>
    obtain ⟨i, hi, rfl, hst⟩ := hrel
    have j0 : (0 : Int) ≤ (i : Int) := by omega
    by_cases hil : i < l.length
    · have j1 : (i : Int) < (l.length : Int) := by omega
      have hpb := HLb.out _ (getD_in (d := pr0) hil)
      have hsn := setAll_snoc .nil l i hil
      have hmn := mapL_snoc [] l i hil
      have hml2 := mapL_len (l.take i) []
      rw [List.length_take, List.length_nil] at hml2
      obtain ⟨lo', lcap', elv, _, _, _, hprs⟩ := hst.put.form
      obtain ⟨rfl, _, rfl⟩ : lo = lo' ∧ l.length = l.length ∧ lcap = lcap' := by simpa using elv
      obtain ⟨g1, o1, rfl, x1, x2⟩ := hprs i hil
      generalize hpe : l.getD i pr0 = p at *
      obtain ⟨k, v⟩ := p
      dsimp only at x1 x2 hpb hsn
      generalize setAll .nil (l.take i) = n at *
      generalize mapL [] (l.take i) = m at *
      have HX := hide (And.intro hsn hmn)
      have HPe := hide hpe
      have HW2 := hide (hst.keep (below_alloc wr (.cells #[.string k, .string v] 32)))
      have HPrs : Hid (Prs (wr.alloc (.cells #[.string k, .string v] 32)) (some ⟨wr.heap.size, 0, none⟩) [(k, v)]) := by
        have h := heap_alloc_new wr (.cells #[.string k, .string v] 32)
        intro j hj
        obtain rfl : j = 0 := by simpa using hj
        exact ⟨_, 0, rfl, cell_of_row _ _ 0 _ _ (0, 0) h, cell_of_row _ _ 1 _ _ (0, 0) h⟩
      obtain ⟨ok2, hok2, hap2⟩ := HW2.out.x
      have HPut := hide (cPut_any HkC HkC.ne ok2 T (.map (some M)) n (some ⟨wr.heap.size, 0, none⟩) 1 [(k, v)] _ hok2.tree hok2.tok HPrs.out (by intro p hp; simp at hp; rw [hp]; exact hpb) (by simp))
      have HOk := hide (And.intro hok2 hap2)
      clear hok2 hap2 hst hsn hmn hpe hprs
      unfold ptr at *
      go_wp2_with fail
      refine HPut.out.mono ?_
      rintro e W4 hch
      obtain ⟨rfl, hst3⟩ := HW2.out.change HD.out HOk.out.1 HOk.out.2 hch (TOk.setAll HOk.out.1.tok [(k, v)] (by intro p hp; simp at hp; rw [hp]; exact hpb))
      have hsn2 : setAll n [(k, v)] = n.set (pathN k) v := rfl
      rw [hsn2] at hst3
      obtain ⟨mo3, mcap3, rfl, ms3, m03, mc3, mp3⟩ := hst3.row.form
      obtain ⟨lo', lcap', elv, _, _, _, hprs3⟩ := hst3.put.form
      obtain ⟨elo, _, rfl⟩ : some ⟨g1, o1, none⟩ = lo' ∧ l.length = l.length ∧ lcap = lcap' := by simpa using elv
      subst elo
      have HL3 := hide (laid_any mo3 mcap3 m (k, v) W4 mp3 (fun a e => (ms3 a e).1) m03 mc3 (by omega))
      have HS3 := hide hst3
      obtain ⟨g', o', e', y1, y2⟩ := hprs3 i hil
      rw [HPe.out] at y1 y2
      obtain ⟨rfl, rfl⟩ : g1 = g' ∧ o1 = o' := by simpa using e'
      clear hch hst3 mp3 hprs3 HPut HPrs HW2 x1 x2 ms3 HOk
      dsimp only at HL3 y1 y2
      go_wp2_with fail
      refine HL3.out.mono ?_
      rintro e W5 ⟨mv5, rfl, ho5, hb5⟩
      have HS5 := hide (HS3.out.laid ho5 hb5)
      clear ho5 hb5 HL3 HS3
      go_wp2
      go_roundw
      case rel => exact ⟨i + 1, by omega, by go_num, by rw [HX.out.1, HX.out.2]; exact HS5.out⟩
      case measure => simp [intOf]; omega
    · obtain rfl : i = l.length := by omega
      rw [List.take_length] at hst
      have HH := hide (Holds.setAll l Holds.nil TOk.nil HLb.out)
      have hml2 : (mapL [] l).length ≤ 60 := by have := mapL_len l []; rw [List.length_nil] at this; omega
      obtain ⟨okx, hos⟩ := hst.next
      obtain ⟨B1, hB1⟩ : ∃ B1, B1 = wr.heap.size := ⟨_, rfl⟩
      have hBB : B ≤ B1 := by rw [hB1]; exact hst.size
      rw [← hB1] at hos
      have HS1 := hide hos
      change Hid (Holds (setAll .nil l) (mapL [] l)) at HH
      generalize setAll .nil l = nx at *
      generalize mapL [] l = m0 at *
      have HCb := hide (cutK_bound other)
      have HCg := hide (cutK_get other)
      have HCl := hide (cutK_len other)
      generalize cutK other = ks at *
      clear hst hos HS0 hB1
      obtain ⟨mo, mcap, rfl, _, _, _, _⟩ := HS1.out.row.form
      go_wp2_with fail
      go_loopw [15] (fun iv wr => ∃ j : Nat, j ≤ other.length ∧ iv = .int .i64 (j : Int) ∧ ∃ ny, OS w B B1 T M T2 M2 okx nx ny m0 (.slice mo m0.length mcap) wr ∧ Sup ny (fun k => k ∈ ks)) (fun iv _ => other.length - (intOf iv).toNat)
      case atStart => exact ⟨0, by omega, rfl, .nil, HS1.out, Sup.nil _⟩
      case round =>
        obtain ⟨j, hj, rfl, ny, hst, hsup⟩ := hrel
        have j0 : (0 : Int) ≤ (j : Int) := by omega
        by_cases hjl : j < other.length
        · have j1 : (j : Int) < (other.length : Int) := by omega
          obtain ⟨g1, o1, rfl, x1⟩ := HOth.out.keep hst.bel j hjl
          have hk := HOs.out _ (getD_in (d := e0) hjl)
          have HKe0 := hide (HCg.out j hjl)
          have HKm : Hid (ks.getD j e0 ∈ ks) := getD_in (by rw [HCl.out]; exact hjl)
          generalize other.getD j e0 = k0 at *
          have HUp := hide (upTo_int k0 64)
          have HKe : Hid (ks.getD j e0 = upToZ k0 64) := HKe0.out
          have hkb : (upToZ k0 64).size ≤ 64 := by rw [← HKe.out]; exact HCb.out _ HKm.out
          have HS := hide hst
          have HSp := hide hsup
          clear hst hsup HKe0
          go_wp2_with fail
          refine (HUp.out _ hk (by decide) (by decide)).mono ?_
          rintro e W6 ⟨rfl, rfl⟩
          generalize upToZ k0 64 = k at *
          have HW2 := hide (HS.out.keep (below_alloc W6 (.cells #[.string k, .string othB] 32)))
          have HPrs : Hid (Prs (W6.alloc (.cells #[.string k, .string othB] 32)) (some ⟨W6.heap.size, 0, none⟩) [(k, othB)]) := by
            have h := heap_alloc_new W6 (.cells #[.string k, .string othB] 32)
            intro j hj
            obtain rfl : j = 0 := by simpa using hj
            exact ⟨_, 0, rfl, cell_of_row _ _ 0 _ _ (0, 0) h, cell_of_row _ _ 1 _ _ (0, 0) h⟩
          obtain ⟨oky, hoky⟩ := HW2.out.y
          have hpb : ∀ p ∈ [(k, othB)], p.1.size ≤ 64 ∧ p.2.size ≤ 400 := by intro p hp; simp at hp; rw [hp]; exact ⟨hkb, show othB.size ≤ 400 by decide⟩
          have HPut := hide (cPut_any HkC HkC.ne oky T2 (.map (some M2)) ny (some ⟨W6.heap.size, 0, none⟩) 1 [(k, othB)] _ hoky.tree hoky.tok HPrs.out hpb (by simp))
          have HOk := hide hoky
          have HPb := hide hpb
          clear hoky hpb
          unfold ptr othB at *
          go_wp2_with fail
          refine HPut.out.mono ?_
          rintro e W7 hch
          obtain ⟨rfl, hst7⟩ := HW2.out.change HD.out HOk.out hch (TOk.setAll HOk.out.tok _ HPb.out)
          have HS7 := hide hst7
          have HSp7 : Hid (Sup (setAll ny [(k, othB)]) (fun k => k ∈ ks)) := HSp.out.set HOk.out.tok.wf k othB (fun _ h => h) (by rw [← HKe.out]; exact HKm.out)
          clear hch hst7 HPut HW2 HPrs
          go_wp2
          go_roundw
          case rel => exact ⟨j + 1, by omega, by go_num, _, HS7.out, HSp7.out⟩
          case measure => simp [intOf]; omega
        · obtain rfl : j = other.length := by omega
          have HS := hide hst
          have HSp := hide hsup
          clear hst hsup HS1
          go_wp2_with fail
          go_loopw [16] (fun iv wr => ∃ i : Nat, i ≤ m0.length ∧ iv = .int .i64 (i : Int) ∧ ∃ m ny, m.length = m0.length ∧ m.Perm m0 ∧ OS w B B1 T M T2 M2 okx nx ny m (.slice mo m0.length mcap) wr ∧ Has ny (m.take i) ∧ Sup ny (fun k => k ∈ ks ∨ ∃ p ∈ m.take i, p.1 = k)) (fun iv _ => m0.length - (intOf iv).toNat)
          case atStart => exact ⟨0, by omega, rfl, m0, ny, rfl, List.Perm.refl _, HS.out, (fun p hp => by simp at hp), fun r hr => by obtain ⟨k, h1, h2⟩ := HSp.out r hr; exact ⟨k, .inl h1, h2⟩⟩
          case round =>
            obtain ⟨i, hi, rfl, m, ny, hmlen, hperm, hst, hhas, hsup⟩ := hrel
            have j0 : (0 : Int) ≤ (i : Int) := by omega
            by_cases hil : i < m0.length
            · have j1 : (i : Int) < (m0.length : Int) := by omega
              obtain ⟨ao', cap', ev, ms, _, _, mp⟩ := hst.row.form
              obtain ⟨rfl, -, rfl⟩ : mo = ao' ∧ m0.length = m.length ∧ mcap = cap' := by simpa using ev
              obtain ⟨g, o, rfl, _, _⟩ := mp i (by omega)
              have HF : Hid (∀ k, i ≤ k → k < m0.length → OrdF w B B1 T M T2 M2 okx nx ny m g o mcap i k wr) := fun k hik hkl => ordF HD.out hBw (by rw [hmlen]; exact hst) (by omega) (by omega)
              have HAp := hide (HH.out.map.apart.perm hperm)
              have HBd : Hid (∀ p ∈ m, p.1.size ≤ 64 ∧ p.2.size ≤ 400 ∧ p.2.size ≠ 0) := fun p hp => HH.out.map.bound p (hperm.mem_iff.1 hp)
              have HSt := hide hst
              have HHas := hide hhas
              have HSup := hide hsup
              have HPm := hide hperm
              have HMl := hide hmlen
              clear hst hhas hsup hperm ms mp ev hmlen
              by_cases hio : i < order.length
              · have jo : (i : Int) < (order.length : Int) := by omega
                obtain ⟨g3, o3, rfl, z1⟩ := HOrd.out.keep HSt.out.bel i hio
                obtain ⟨zb1, zb2⟩ := HRb.out _ (getD_in (d := 0) hio)
                generalize order.getD i 0 = z at *
                have HPk := hide (pick_any z (m0.length - i) wr zb1 zb2 (by omega) (by omega))
                have hlf : ((m0.length - i : Nat) : Int) = (m0.length : Int) - (i : Int) := by omega
                rw [hlf] at HPk
                clear hlf zb1 zb2
                go_wp2_with fail
                refine HPk.out.mono ?_
                rintro e W8 ⟨kk, hkk, rfl, e8⟩
                obtain rfl : wr = W8 := e8.symm
                have ek : IntKind.i64.wrap ((i : Int) + (kk : Int)) = ((i + kk : Nat) : Int) := by
                  have e : ((i + kk : Nat) : Int) = (i : Int) + (kk : Int) := by omega
                  rw [e]
                  simp [IntKind.wrap, IntKind.bits, IntKind.signed]; omega
                have hik : i ≤ i + kk := by omega
                have hkl : i + kk < m0.length := by omega
                have HFk := hide (HF.out (i + kk) hik hkl)
                have ek2 : (i : Int) + (kk : Int) = ((i + kk : Nat) : Int) := by omega
                generalize i + kk = k at *
                have kq0 : (0 : Int) ≤ (k : Int) := by omega
                have kq1 : (k : Int) < (m0.length : Int) := by omega
                obtain ⟨q0, q1, q2, q3, q4, q5, q6, q7, q8, q9, q10, q11, q12, q13, q14⟩ := HFk.out
                have q6a := q6 (o + k * 2)
                have q6b := q6 (o + k * 2 + 1)
                have q11a := q11 (o + i * 2)
                have q11b := q11 (o + i * 2 + 1)
                have HBk := hide (HBd.out _ (getD_in (d := pr0) (show k < m.length by rw [HMl.out]; exact hkl)))
                have HNx := hide (ord_next (ks := ks) HAp.out hik (show k < m.length by rw [HMl.out]; exact hkl) HSt.out.y.choose_spec.tok.wf HHas.out HSup.out)
                have HSw : Hid ((swapL m i k).length = m0.length ∧ (swapL m i k).Perm m0) := ⟨by rw [swap_len, HMl.out], (swap_perm (by rw [HMl.out]; omega) (by rw [HMl.out]; exact hkl)).trans HPm.out⟩
                obtain ⟨W11, hW11⟩ : ∃ W11, (((((wr.alloc (.cells #[.string (m.getD k pr0).1, .string (m.getD k pr0).2] 32)).setCell ⟨g, o + k * 2, none⟩ (.string (m.getD i pr0).1)).setCell ⟨g, o + k * 2 + 1, none⟩ (.string (m.getD i pr0).2)).setCell ⟨g, o + i * 2, none⟩ (.string (m.getD k pr0).1)).setCell ⟨g, o + i * 2 + 1, none⟩ (.string (m.getD k pr0).2)) = W11 := ⟨_, rfl⟩
                rw [hW11, HMl.out] at q14
                have HQ := hide q14
                have HW := hide hW11
                have HZ11 : Hid (W11.heap.size = wr.heap.size + 1) := by
                  show _ = _
                  rw [← hW11]; simp [World.setCell]
                clear q6 q11 q14 HFk hW11
                generalize hpk : m.getD k pr0 = pk at *
                generalize m.getD i pr0 = mi at *
                clear hpk
                obtain ⟨kk1, kk2⟩ := pk
                obtain ⟨mm1, mm2⟩ := mi
                dsimp only at q0 q1 q2 q3 q4 q5 q6a q6b q7 q8 q9 q10 q11a q11b q12 q13 HBk HNx HW
                have HW2 := hide (HQ.out.keep (below_alloc W11 (.cells #[.string kk1, .string kk2] 32)))
                have HPrs : Hid (Prs (W11.alloc (.cells #[.string kk1, .string kk2] 32)) (some ⟨W11.heap.size, 0, none⟩) [(kk1, kk2)]) := by
                  have h := heap_alloc_new W11 (.cells #[.string kk1, .string kk2] 32)
                  intro j hj
                  obtain rfl : j = 0 := by simpa using hj
                  exact ⟨_, 0, rfl, cell_of_row _ _ 0 _ _ (0, 0) h, cell_of_row _ _ 1 _ _ (0, 0) h⟩
                obtain ⟨oky, hoky⟩ := HW2.out.y
                have hpb : ∀ p ∈ [(kk1, kk2)], p.1.size ≤ 64 ∧ p.2.size ≤ 400 := by intro p hp; simp at hp; rw [hp]; exact ⟨HBk.out.1, HBk.out.2.1⟩
                have HPut := hide (cPut_any HkC HkC.ne oky T2 (.map (some M2)) ny (some ⟨W11.heap.size, 0, none⟩) 1 [(kk1, kk2)] _ hoky.tree hoky.tok HPrs.out hpb (by simp))
                rw [HZ11.out] at HPut
                have HOk := hide hoky
                have HPb := hide hpb
                clear hoky hpb
                unfold ptr at *
                go_wp2_with fail
                rw [HW.out]
                refine HPut.out.mono ?_
                rintro e W12 hch
                obtain ⟨rfl, hst12⟩ := HW2.out.change HD.out HOk.out hch (TOk.setAll HOk.out.tok _ HPb.out)
                have HS12 := hide hst12
                clear hch hst12 HPut HW2 HPrs q0 q1 q2 q3 q4 q5 q6a q6b q7 q8 q9 q10 q11a q11b q12 q13
                go_wp2
                go_roundw
                case rel => exact ⟨i + 1, by omega, by go_num, _, _, HSw.out.1, HSw.out.2, HS12.out, HNx.out.1, HNx.out.2⟩
                case measure => simp [intOf]; omega
              · have jo : ¬ (i : Int) < (order.length : Int) := by omega
                have hik : i ≤ i := by omega
                have hkl : i < m0.length := hil
                have HFk := hide (HF.out i hik hkl)
                obtain ⟨q0, q1, q2, q3, q4, q5, q6, q7, q8, q9, q10, q11, q12, q13, q14⟩ := HFk.out
                have q6a := q6 (o + i * 2)
                have q6b := q6 (o + i * 2 + 1)
                have q11a := q11 (o + i * 2)
                have q11b := q11 (o + i * 2 + 1)
                have HBk := hide (HBd.out _ (getD_in (d := pr0) (show i < m.length by rw [HMl.out]; exact hkl)))
                have HNx := hide (ord_next (ks := ks) HAp.out hik (show i < m.length by rw [HMl.out]; exact hkl) HSt.out.y.choose_spec.tok.wf HHas.out HSup.out)
                have HSw : Hid ((swapL m i i).length = m0.length ∧ (swapL m i i).Perm m0) := ⟨by rw [swap_len, HMl.out], (swap_perm (by rw [HMl.out]; omega) (by rw [HMl.out]; exact hkl)).trans HPm.out⟩
                obtain ⟨W11, hW11⟩ : ∃ W11, (((((wr.alloc (.cells #[.string (m.getD i pr0).1, .string (m.getD i pr0).2] 32)).setCell ⟨g, o + i * 2, none⟩ (.string (m.getD i pr0).1)).setCell ⟨g, o + i * 2 + 1, none⟩ (.string (m.getD i pr0).2)).setCell ⟨g, o + i * 2, none⟩ (.string (m.getD i pr0).1)).setCell ⟨g, o + i * 2 + 1, none⟩ (.string (m.getD i pr0).2)) = W11 := ⟨_, rfl⟩
                rw [hW11, HMl.out] at q14
                have HQ := hide q14
                have HW := hide hW11
                have HZ11 : Hid (W11.heap.size = wr.heap.size + 1) := by
                  show _ = _
                  rw [← hW11]; simp [World.setCell]
                clear q6 q11 q14 HFk hW11
                generalize hpk : m.getD i pr0 = pk at *
                clear hpk
                obtain ⟨kk1, kk2⟩ := pk
                dsimp only at q0 q1 q2 q3 q4 q5 q6a q6b q7 q8 q9 q10 q11a q11b q12 q13 HBk HNx HW
                have HW2 := hide (HQ.out.keep (below_alloc W11 (.cells #[.string kk1, .string kk2] 32)))
                have HPrs : Hid (Prs (W11.alloc (.cells #[.string kk1, .string kk2] 32)) (some ⟨W11.heap.size, 0, none⟩) [(kk1, kk2)]) := by
                  have h := heap_alloc_new W11 (.cells #[.string kk1, .string kk2] 32)
                  intro j hj
                  obtain rfl : j = 0 := by simpa using hj
                  exact ⟨_, 0, rfl, cell_of_row _ _ 0 _ _ (0, 0) h, cell_of_row _ _ 1 _ _ (0, 0) h⟩
                obtain ⟨oky, hoky⟩ := HW2.out.y
                have hpb : ∀ p ∈ [(kk1, kk2)], p.1.size ≤ 64 ∧ p.2.size ≤ 400 := by intro p hp; simp at hp; rw [hp]; exact ⟨HBk.out.1, HBk.out.2.1⟩
                have HPut := hide (cPut_any HkC HkC.ne oky T2 (.map (some M2)) ny (some ⟨W11.heap.size, 0, none⟩) 1 [(kk1, kk2)] _ hoky.tree hoky.tok HPrs.out hpb (by simp))
                rw [HZ11.out] at HPut
                have HOk := hide hoky
                have HPb := hide hpb
                clear hoky hpb
                unfold ptr at *
                go_wp2_with fail
                rw [HW.out]
                refine HPut.out.mono ?_
                rintro e W12 hch
                obtain ⟨rfl, hst12⟩ := HW2.out.change HD.out HOk.out hch (TOk.setAll HOk.out.tok _ HPb.out)
                have HS12 := hide hst12
                clear hch hst12 HPut HW2 HPrs q0 q1 q2 q3 q4 q5 q6a q6b q7 q8 q9 q10 q11a q11b q12 q13
                go_wp2
                go_roundw
                case rel => exact ⟨i + 1, by omega, by go_num, _, _, HSw.out.1, HSw.out.2, HS12.out, HNx.out.1, HNx.out.2⟩
                case measure => simp [intOf]; omega
            · obtain rfl : i = m0.length := by omega
              have etk : m.take m0.length = m := by rw [← hmlen, List.take_length]
              rw [etk] at hhas hsup
              have HAp := hide (HH.out.map.apart.perm hperm)
              have HBd : Hid (∀ p ∈ m, p.1.size ≤ 64 ∧ p.2.size ≤ 400 ∧ p.2.size ≠ 0) := fun p hp => HH.out.map.bound p (hperm.mem_iff.1 hp)
              have HPm := hide hperm
              have HMl := hide hmlen
              have HS3 := hide hst
              have HHas := hide hhas
              have HSup : Hid (Sup ny (fun x => (x ∈ ks.drop 0 ∧ (valueL m x).size = 0) ∨ ∃ p ∈ m, p.1 = x)) := fun r hr => by
                obtain ⟨x, hx, rfl⟩ := hsup r hr
                refine ⟨x, ?_, rfl⟩
                rcases hx with hx | hx
                · by_cases hv : (valueL m x).size = 0
                  · exact .inl ⟨hx, hv⟩
                  · exact .inr ⟨_, valueL_mem m x hv, rfl⟩
                · exact .inr hx
              clear hst hhas hsup hperm hmlen etk HS HSp
              go_wp2_with fail
              go_loopw [19] (fun iv wr => ∃ j : Nat, j ≤ other.length ∧ iv = .int .i64 (j : Int) ∧ ∃ ny, OS w B B1 T M T2 M2 okx nx ny m (.slice mo m0.length mcap) wr ∧ Has ny m ∧ Sup ny (fun x => (x ∈ ks.drop j ∧ (valueL m x).size = 0) ∨ ∃ p ∈ m, p.1 = x)) (fun iv _ => other.length - (intOf iv).toNat)
              case atStart => exact ⟨0, by omega, rfl, ny, HS3.out, HHas.out, HSup.out⟩
              case round =>
                obtain ⟨j, hj, rfl, ny, hst, hhas, hsup⟩ := hrel
                have j0 : (0 : Int) ≤ (j : Int) := by omega
                by_cases hjl : j < other.length
                · have j1 : (j : Int) < (other.length : Int) := by omega
                  obtain ⟨g1, o1, rfl, x1⟩ := HOth.out.keep hst.bel j hjl
                  have hk := HOs.out _ (getD_in (d := e0) hjl)
                  have HKe0 := hide (HCg.out j hjl)
                  have hjk : j < ks.length := by rw [HCl.out]; exact hjl
                  have HKm : Hid (ks.getD j e0 ∈ ks) := getD_in hjk
                  generalize other.getD j e0 = k0 at *
                  have HUp := hide (upTo_int k0 64)
                  have HKe : Hid (ks.getD j e0 = upToZ k0 64) := HKe0.out
                  have hkb : (upToZ k0 64).size ≤ 64 := by rw [← HKe.out]; exact HCb.out _ HKm.out
                  obtain ⟨ao', cap', ev, ms, m0c, mcc, mp⟩ := hst.row.form
                  obtain ⟨rfl, -, rfl⟩ : mo = ao' ∧ m0.length = m.length ∧ mcap = cap' := by simpa using ev
                  have HVal := hide (fun W (hW : Below wr.heap.size wr W) => value_any mo mcap m (upToZ k0 64) W (mp.keep hW) (by rw [HMl.out]; omega))
                  rw [HMl.out] at HVal
                  have HWF : Hid (ny.WF) := hst.y.choose_spec.tok.wf
                  have HNo : Hid ((valueL m (upToZ k0 64)).size = 0 → Has (ny.drop (pathN (upToZ k0 64))) m ∧ Sup (ny.drop (pathN (upToZ k0 64))) (fun x => (x ∈ ks.drop (j + 1) ∧ (valueL m x).size = 0) ∨ ∃ p ∈ m, p.1 = x)) := fun hv => by
                    have h := ord_drop (ks := ks) HAp.out (fun p hp => (HBd.out p hp).2.2) hjk HWF.out (by rw [HKe.out]; exact hv) hhas hsup
                    rw [HKe.out] at h
                    exact h
                  have HYes : Hid ((valueL m (upToZ k0 64)).size ≠ 0 → Sup ny (fun x => (x ∈ ks.drop (j + 1) ∧ (valueL m x).size = 0) ∨ ∃ p ∈ m, p.1 = x)) := fun hv => ord_stay hjk (by rw [HKe.out]; exact hv) hsup
                  have HHs := hide hhas
                  have HS := hide hst
                  clear hst hhas hsup HKe0 ms m0c mcc mp ev
                  go_wp2_with fail
                  refine (HUp.out _ hk (by decide) (by decide)).mono ?_
                  rintro e W6 ⟨rfl, e6⟩
                  obtain rfl : wr = W6 := e6.symm
                  clear HKe
                  generalize upToZ k0 64 = k at *
                  generalize valueL m k = vv at *
                  go_wp2_with fail
                  refine (HVal.out _ (Below.refl _ _)).mono ?_
                  rintro e W7 ⟨rfl, hb7⟩
                  have HS7 := hide (HS.out.keep hb7)
                  clear hb7
                  by_cases hv0 : vv.size = 0
                  · obtain rfl : vv = e0 := e0_of hv0
                    have HW2 := hide (HS7.out.keep (below_alloc W7 (.cells #[.string k] 9)))
                    have HKys : Hid (Kys (W7.alloc (.cells #[.string k] 9)) (some ⟨W7.heap.size, 0, none⟩) [k]) := by
                      have h := heap_alloc_new W7 (.cells #[.string k] 9)
                      intro j hj
                      obtain rfl : j = 0 := by simpa using hj
                      exact ⟨_, 0, rfl, cell_of_row _ _ 0 _ _ (0, 0) h⟩
                    obtain ⟨oky, hoky⟩ := HW2.out.y
                    have hpb : ∀ p ∈ [k], p.size ≤ 64 := by intro p hp; simp at hp; rw [hp]; exact hkb
                    have HDel := hide (cDelete_any HkC oky T2 (.map (some M2)) ny (some ⟨W7.heap.size, 0, none⟩) 1 [k] _ hoky.tree hoky.tok HKys.out hpb (by simp))
                    have HOk := hide hoky
                    have HPb := hide hpb
                    have HN := hide (HNo.out hv0)
                    clear hoky hpb hv0
                    unfold ptr e0 at *
                    go_wp2_with fail
                    refine HDel.out.mono ?_
                    rintro e W8 hch
                    obtain ⟨rfl, hst8⟩ := HW2.out.change HD.out HOk.out hch (TOk.dropAll HOk.out.tok _ HPb.out)
                    have HS8 := hide hst8
                    clear hch hst8 HDel HW2 HKys
                    go_wp2
                    go_roundw
                    case rel => exact ⟨j + 1, by omega, by go_num, _, HS8.out, HN.out.1, HN.out.2⟩
                    case measure => simp [intOf]; omega
                  · have hvv := isEmptyV hv0
                    have HN := hide (HYes.out hv0)
                    clear hv0
                    go_wp2
                    go_roundw
                    case rel => exact ⟨j + 1, by omega, by go_num, _, HS7.out, HHs.out, HN.out⟩
                    case measure => simp [intOf]; omega
                · obtain rfl : j = other.length := by omega
                  have edr : ks.drop other.length = [] := by rw [← HCl.out, List.drop_length]
                  rw [edr] at hsup
                  obtain ⟨oky, hy⟩ := hst.y
                  have HE : Hid (nx = ny) := same_tree HH.out hst.x.tok.wf hy.tok.wf HPm.out hhas (fun r hr => by
                    obtain ⟨x, hx, hr'⟩ := hsup r hr
                    rcases hx with ⟨hx, _⟩ | hx
                    · simp at hx
                    · exact ⟨x, hx, hr'⟩)
                  have hEq := HE.out
                  subst hEq
                  have HX := hide hst.x
                  have HY := hide hy
                  have HBl := hide hst.bel
                  have HXl := hide hst.xlt
                  have hsz1 := hst.size
                  have hszn : nx.sz ≤ 1000000 := by have := sz_holds HH.out hst.x.tok.wf; omega
                  have HZ := hide (holds_nil HH.out hst.x.tok.wf)
                  have hM3 : 3 ≤ M ∧ 3 ≤ M2 ∧ M < B ∧ M2 < B ∧ T < B ∧ T2 < B := by
                    have := HD.out.m; have := HD.out.m2; have := HD.out.t; have := HD.out.t2; omega
                  have HKx : Hid (∀ k, okx k → B ≤ k) := hst.x.ahead
                  have HKy : Hid (∀ k, oky k → B1 ≤ k) := hy.ahead
                  have HKx3 : Hid (∀ k, okx k → 3 ≤ k ∧ k ≠ M) := fun k hk => by have := HKx.out k hk; omega
                  have HKy3 : Hid (∀ k, oky k → 3 ≤ k ∧ k ≠ M2) := fun k hk => by have := HKy.out k hk; omega
                  have HR1 := hide (cRoot_any okx T _ nx wr HX.out.tree HX.out.tok (HTb.out.keep HBl.out) (fun k hk => (HKx3.out k hk).1))
                  clear hst hhas hsup hy edr HE HS3 HHas HSup
                  unfold ptr at *
                  go_wp2_with fail
                  refine HR1.out.mono ?_
                  rintro e W20 ⟨rfl, hk20⟩
                  have HX20 := hide (HX.out.keepH hk20)
                  have HY20 := hide (HY.out.keepH hk20)
                  have HB20 := hide (KeepH.all HBl.out hk20 HKx.out hBw)
                  have HR2 := hide (cRoot_any oky T2 _ nx W20 HY20.out.tree HY20.out.tok (HTb.out.keep HB20.out) (fun k hk => (HKy3.out k hk).1))
                  have hs20 : B1 ≤ W20.heap.size := Nat.le_trans hsz1 hk20.size
                  clear hk20 HR1 HX HY HBl
                  unfold ptr at *
                  go_wp2_with fail
                  refine HR2.out.mono ?_
                  rintro e W21 ⟨rfl, hk21⟩
                  have HX21 := hide (HX20.out.keepH hk21)
                  have HY21 := hide (HY20.out.keepH hk21)
                  have HB21 := hide (KeepH.all (B := B1) HB20.out hk21 HKy.out (by omega))
                  have hs21 : B1 ≤ W21.heap.size := Nat.le_trans hs20 hk21.size
                  have HC1 := hide (cCommit_any okx T M [] nx W21 HX21.out.tree HX21.out.tok (HTb.out.keep HB21.out) HKx3.out hM3.1 HX21.out.store (fun p hp => by simp at hp) hszn)
                  have hRs : (rootOf nx).size = 32 := rootOf_size nx
                  generalize rootOf nx = R at *
                  clear hk21 HR2 HX20 HY20 HB20
                  unfold ptr at *
                  go_wp2_with fail
                  refine HC1.out.mono ?_
                  rintro e W22 ⟨po, pc, L, rfl, hp1, hr1, hprs1, h01, hc1, hsp1, hcm1, hst1⟩
                  have HX22 := hide (HX21.out.own hcm1 hst1)
                  have HY22 : Hid (Tr B1 T2 M2 [] nx oky W22) := HY21.out.cm hcm1 (fun k hk => ⟨fun e => by have := HXl.out k e; have := HKy.out k hk; omega, by have := HKy.out k hk; omega⟩) ⟨fun e => by have := HKx.out _ e; omega, fun e => HD.out.mt e.symm⟩ ⟨fun e => by have := HKx.out _ e; omega, fun e => HD.out.mm e.symm⟩
                  have HB22 := hide (CmK.all HB21.out hcm1 HKx.out HD.out.m.1 hBw)
                  have HP1 := hide (And.intro hp1 (And.intro hr1 (And.intro hprs1 hsp1)))
                  have HC2 := hide (cCommit_any oky T2 M2 [] nx W22 HY22.out.tree HY22.out.tok (HTb.out.keep HB22.out) HKy3.out hM3.2.1 HY22.out.store (fun p hp => by simp at hp) hszn)
                  have hs22 : W21.heap.size ≤ W22.heap.size := hcm1.size
                  clear hp1 hr1 hprs1 h01 hc1 hsp1 hcm1 hst1 HC1 HX21
                  unfold ptr at *
                  go_wp2_with fail
                  refine HC2.out.mono ?_
                  rintro e W23 ⟨qo, qc, L2, rfl, hp2, hr2, hprs2, h02, hc2, hsp2, hcm2, hst2⟩
                  have HX23 : Hid (Tr B T M (toldOf [] nx) nx okx W23) := HX22.out.cm hcm2 (fun k hk => ⟨fun e => by have := HXl.out k hk; have := HKy.out k e; omega, by have := HKx.out k hk; omega⟩) ⟨fun e => by have := HKy.out _ e; omega, HD.out.tm⟩ ⟨fun e => by have := HKy.out _ e; omega, HD.out.mm⟩
                  have HB23 := hide (CmK.all (B := B1) HB22.out hcm2 HKy.out HD.out.m2.1 (by omega))
                  have hLL : L2 = L := told_same hp2 HP1.out.1 (newE_ok [] _) hr2 HP1.out.2.1
                  subst hLL
                  have HPp : Hid (Prs W23 po L2) := fun i hi => by
                    obtain ⟨g, o, e, c1, c2⟩ := HP1.out.2.2.1 i hi
                    have hg := (HP1.out.2.2.2 _ e).2
                    have hg : W21.heap.size ≤ g := hg
                    have hk : W23.heap[g]? = W22.heap[g]? := hcm2.far g (World.block_lt_of_cell? W22 _ c1) (fun e' => by have := (HY21.out.tree.blk g e').1; omega) (by omega)
                    exact ⟨g, o, e, (World.cell?_of_block (a := ⟨g, o + i * 2, none⟩) hk).trans c1, (World.cell?_of_block (a := ⟨g, o + i * 2 + 1, none⟩) hk).trans c2⟩
                  have hLn : L2.length ≤ 1000000 := by
                    have h1 := hp2.length_eq
                    have h2 : (toldOf [] nx).length ≤ nx.sz := told_len (List.prefix_refl _)
                    omega
                  have HSm := hide (sameEntries_any po qo pc qc L2 W23 HPp.out hprs2 hLn)
                  have HEnt := hide (perm_once hp2 (newE_ok [] _))
                  have HRi := hide (ranked_rises hr2 HEnt.out.once)
                  have HSt : Hid (∀ p ∈ L2, p.2.size ≤ 3000) := fun p hp => (told_tok HX22.out.tok p (hp2.mem_iff.1 hp)).2
                  have HLz : Hid (L2.length = 0 ↔ m0.length = 0) := by
                    rw [hp2.length_eq]
                    constructor
                    · intro e
                      refine HZ.out.1 (Classical.byContradiction (fun hn => toldOf_some nx hn (List.length_eq_zero_iff.1 e)))
                    · intro e
                      rw [HZ.out.2 e]
                      rfl
                  clear hp2 hr2 hprs2 h02 hc2 hsp2 hcm2 hst2 HC2 HX22 HY22 HB22 HP1 HY21 HB21
                  go_wp2_with fail
                  refine HSm.out.mono ?_
                  rintro e W24 ⟨rfl, hb24⟩
                  have HX24 := hide (HX23.out.keep hb24)
                  have HB24 := hide (HB23.out.trans (hb24.mono HB23.out.size))
                  have HP24 := hide (HPp.out.keep hb24)
                  clear hb24 HSm HX23 HB23 HPp
                  go_wp2_with fail
                  go_loopw [26] (fun iv wr => ∃ i : Nat, i ≤ L2.length ∧ iv = .int .i64 (i : Int) ∧ Below W24.heap.size W24 wr) (fun iv _ => L2.length - (intOf iv).toNat)
                  case atStart => exact ⟨0, by omega, rfl, Below.refl _ _⟩
                  case round =>
                    obtain ⟨i, hi, rfl, hbw⟩ := hrel
                    have HBW := hide hbw
                    clear hbw
                    have j0 : (0 : Int) ≤ (i : Int) := by omega
                    by_cases hil : i < L2.length
                    · have j1 : (i : Int) < (L2.length : Int) := by omega
                      have hpm := getD_in (d := pr0) hil
                      have HRt := hide (HEnt.out.right _ hpm)
                      have hts := HSt.out _ hpm
                      obtain ⟨g1, o1, rfl, x1, x2⟩ := HP24.out.keep HBW.out i hil
                      have hBw2 : Below w.heap.size w wr := HB24.out.trans (HBW.out.mono HB24.out.size)
                      have HHs := hide (hashZ_any (L2.getD i pr0).2 wr (HTb.out.keep hBw2) (by omega))
                      rw [← HRt.out] at HHs
                      cases i with
                      | zero =>
                        have HK : Hid (∀ W, Below wr.heap.size wr W → W.cell? ⟨g1, o1 + 0 * 2, none⟩ = some (.string (L2.getD 0 pr0).1)) := fun W hW => (hW.cell (p := ⟨g1, o1 + 0 * 2, none⟩) (World.block_lt_of_cell? wr _ x1)).trans x1
                        clear hBw2 hpm HRt hts
                        generalize L2.getD 0 pr0 = t at *
                        obtain ⟨t1, t2⟩ := t
                        dsimp only at x1 x2 HHs HK
                        go_wp2_with fail
                        refine HHs.out.mono ?_
                        rintro e W25 ⟨rfl, hb25⟩
                        have y1 := HK.out W25 hb25
                        have HB25 := hide (HBW.out.trans (hb25.mono HBW.out.size))
                        have y1b : W25.cell? ⟨g1, o1, none⟩ = some (.string t1) := by simpa using y1
                        clear hb25 x1 x2
                        go_wp2
                        go_roundw
                        case rel => exact ⟨0 + 1, by omega, by go_num, HB25.out⟩
                        case measure => simp [intOf]; omega
                      | succ i1 =>
                        have hless : Op.bytesLess (L2.getD i1 pr0).1.toList (L2.getD (i1 + 1) pr0).1.toList = true := by
                          have h := List.pairwise_iff_getElem.1 HRi.out i1 (i1 + 1) (by omega) hil (by omega)
                          rw [List.getD_eq_getElem?_getD, List.getD_eq_getElem?_getD, List.getElem?_eq_getElem hil, List.getElem?_eq_getElem (show i1 < L2.length by omega)]
                          exact h
                        obtain ⟨g2, o2, e2, z1, z2⟩ := HP24.out.keep HBW.out i1 (by omega)
                        obtain ⟨rfl, rfl⟩ : g1 = g2 ∧ o1 = o2 := by simpa using e2
                        have HK : Hid (∀ W, Below wr.heap.size wr W → W.cell? ⟨g1, o1 + (i1 + 1) * 2, none⟩ = some (.string (L2.getD (i1 + 1) pr0).1) ∧ W.cell? ⟨g1, o1 + i1 * 2, none⟩ = some (.string (L2.getD i1 pr0).1)) := fun W hW => ⟨(hW.cell (p := ⟨g1, o1 + (i1 + 1) * 2, none⟩) (World.block_lt_of_cell? wr _ x1)).trans x1, (hW.cell (p := ⟨g1, o1 + i1 * 2, none⟩) (World.block_lt_of_cell? wr _ z1)).trans z1⟩
                        clear hBw2 hpm HRt hts z1 z2 e2
                        generalize L2.getD (i1 + 1) pr0 = t at *
                        generalize L2.getD i1 pr0 = t' at *
                        obtain ⟨t1, t2⟩ := t
                        obtain ⟨s1, s2⟩ := t'
                        dsimp only at x1 x2 HHs HK hless
                        have i1q : (0 : Int) ≤ (i1 : Int) := by omega
                        have i1l : (i1 : Int) < (L2.length : Int) := by omega
                        go_wp2_with fail
                        refine HHs.out.mono ?_
                        rintro e W25 ⟨rfl, hb25⟩
                        obtain ⟨y1, y2⟩ := HK.out W25 hb25
                        have HB25 := hide (HBW.out.trans (hb25.mono HBW.out.size))
                        clear hb25 x1 x2
                        go_wp2
                        go_roundw
                        case rel => exact ⟨i1 + 1 + 1, by omega, by go_num, HB25.out⟩
                        case measure => simp [intOf]; omega
                    · obtain rfl : i = L2.length := by omega
                      have HX25 := hide (HX24.out.keep HBW.out)
                      have HB25 : Hid (Below w.heap.size w wr) := HB24.out.trans (HBW.out.mono HB24.out.size)
                      have HC3 := hide (cCommit_any okx T M (toldOf [] nx) nx wr HX25.out.tree HX25.out.tok (HTb.out.keep HB25.out) HKx3.out hM3.1 HX25.out.store (told_tok HX25.out.tok) hszn)
                      have HAg : Hid (toldOf (toldOf [] nx) nx = []) := newE_again [] (codesOf nx nx.nodesL)
                      unfold ptr at *
                      go_wp2_with fail
                      refine HC3.out.mono ?_
                      rintro e W26 ⟨ro, rc, L3, rfl, hp3, _, _, _, _, _, hcm3, _⟩
                      rw [HAg.out] at hp3
                      obtain rfl : L3 = [] := List.Perm.eq_nil hp3
                      have HB26 := hide (CmK.all HB25.out hcm3 HKx.out HD.out.m.1 hBw)
                      clear hp3 hcm3 HC3
                      have HDec : Hid (decide (0 < L2.length) = decide (0 < m0.length)) := by
                        have h := HLz.out
                        show _ = _
                        by_cases hz : m0.length = 0
                        · have hz2 := h.2 hz
                          rw [hz, hz2]
                        · have hz2 : ¬ L2.length = 0 := fun e => hz (h.1 e)
                          rw [decide_eq_true (show 0 < L2.length by omega), decide_eq_true (show 0 < m0.length by omega)]
                      go_wp2
                      go_ret
                      refine ⟨?_, HB26.out⟩
                      show Ending.returned (.bool (decide (0 < L2.length) == decide (0 < m0.length))) = _
                      rw [HDec.out]
                      simp
end Go.Proofs.YtgepjjebjhidiaaGreatDoor
