/-
  OUR OWN: VpA VpB.
-/
import Derived.Test.YtkegignigkhleaaDoorG20
import Derived.Test.YtkegignigkhleaaDoorG13
namespace Go.Proofs.YtkegignigkhleaaDoor
open Go.RowKit
attribute [local go_sem ↓] Go.wp_at_zero Go.wp_at_succ

theorem readHead_some (s : ByteArray) (a limit : Nat) (l : Bool) (x y : Nat) (w : World) (hl : limit ≤ s.size) (hs : s.size ≤ 6000) (h : hdN s a limit = some (l, x, y)) :
    Calls Tryd.prog 62 #[.string s, .int .i64 (a : Int), .int .i64 (limit : Int)] w fun e w' => e = .returned (.tuple #[hd l x y, .int .i64 0]) ∧ Below w.heap.size w w' := by
  have ha := (hdN_le h).1
  unfold hdN at h
  rw [if_neg (by omega)] at h
  split at h
  · rename_i h1
    simp only [Option.some.injEq, Prod.mk.injEq] at h
    obtain ⟨rfl, rfl, rfl⟩ := h
    exact readHead_own s a limit w hl hs ha h1
  · rename_i h1
    split at h
    · rename_i h2
      have hh := readHead_text s a (byteN s a - 128) limit w hl hs ha (by omega) (by omega)
      split at h
      · cases h
      · rename_i h3
        have h3' : (spanN s a (byteN s a - 128) limit).2 = 0 := by simpa using h3
        split at h
        · cases h
        · rename_i h4
          simp only [Option.some.injEq, Prod.mk.injEq] at h
          obtain ⟨rfl, e2, e3⟩ := h
          have e := span_eq h3'
          rw [e2, e3] at e h4
          rw [headT_good e (Bool.eq_false_iff.2 h4)] at hh
          exact hh
    · rename_i h2
      have := byteN_lt s a
      have hh := readHead_list s a (byteN s a - 192) limit w hl hs ha (by omega) (by omega)
      split at h
      · cases h
      · rename_i h3
        have h3' : (spanN s a (byteN s a - 192) limit).2 = 0 := by simpa using h3
        simp only [Option.some.injEq, Prod.mk.injEq] at h
        obtain ⟨rfl, e2, e3⟩ := h
        rw [h3', e2, e3] at hh
        exact hh
theorem readHead_none (s : ByteArray) (a limit : Nat) (hl : limit ≤ s.size) (hs : s.size ≤ 6000) (h : hdN s a limit = none) :
    ∃ er : Int, er ≠ 0 ∧ ∀ w, Calls Tryd.prog 62 #[.string s, .int .i64 (a : Int), .int .i64 (limit : Int)] w fun e w' => e = .returned (.tuple #[hd false 0 0, .int .i64 er]) ∧ Below w.heap.size w w' := by
  unfold hdN at h
  split at h
  · rename_i h0; exact ⟨3, by decide, fun w => readHead_short s a limit w h0⟩
  · rename_i h0
    split at h
    · cases h
    · rename_i h1
      split at h
      · rename_i h2
        have hh := fun w => readHead_text s a (byteN s a - 128) limit w hl hs (by omega) (by omega) (by omega)
        split at h
        · rename_i h3
          have h5 : (spanN s a (byteN s a - 128) limit).1 = (0, 0) := span_bad s a _ limit h3
          generalize her : (spanN s a (byteN s a - 128) limit).2 = er at *
          have hsp : spanN s a (byteN s a - 128) limit = ((0, 0), er) := by rw [← h5, ← her]
          rw [headT_bad hsp h3] at hh
          exact ⟨er, h3, hh⟩
        · rename_i h3
          have h3' : (spanN s a (byteN s a - 128) limit).2 = 0 := by simpa using h3
          split at h
          · rename_i h4
            rw [headT_own (span_eq h3') h4] at hh
            exact ⟨4, by decide, hh⟩
          · cases h
      · rename_i h2
        have := byteN_lt s a
        have hh := fun w => readHead_list s a (byteN s a - 192) limit w hl hs (by omega) (by omega) (by omega)
        split at h
        · rename_i h3
          have h5 : (spanN s a (byteN s a - 192) limit).1 = (0, 0) := span_bad s a _ limit h3
          generalize her : (spanN s a (byteN s a - 192) limit).2 = er at *
          rw [h5, decide_eq_false h3] at hh
          exact ⟨er, h3, hh⟩
        · cases h

theorem three_set {w : World} {R : Nat} {T : TypeId} {a b c : Value} (h : w.heap[R]? = some (.cells #[a, b, c] T (0, 0))) (x y z : Value) : (((w.setCell ⟨R, 0, none⟩ x).setCell ⟨R, 1, none⟩ y).setCell ⟨R, 2, none⟩ z).heap[R]? = some (.cells #[x, y, z] T (0, 0)) := by
  have h1 := heap_setCell_same w R 0 _ T x h
  have h2 := heap_setCell_same _ R 1 _ T y h1
  have h3 := heap_setCell_same _ R 2 _ T z h2
  exact h3
theorem below_three {B : Nat} {a w : World} (h : Below B a w) {R : Nat} (hR : B ≤ R) (x y z : Value) : Below B a (((w.setCell ⟨R, 0, none⟩ x).setCell ⟨R, 1, none⟩ y).setCell ⟨R, 2, none⟩ z) := ((h.setCell (p := ⟨R, 0, none⟩) hR x).setCell (p := ⟨R, 1, none⟩) hR y).setCell (p := ⟨R, 2, none⟩) hR z
/-- a head's box -/
theorem box3 {w w1 : World} {a b c : Value} {T : TypeId} (hb : Below (w.alloc (.cells #[a, b, c] T)).heap.size (w.alloc (.cells #[a, b, c] T)) w1) : (∀ o, (w1.alloc o).heap[w.heap.size]? = some (.cells #[a, b, c] T (0, 0))) ∧ Below w.heap.size w w1 ∧ ¬ w1.heap.size = w.heap.size := by
  have h1 : w1.heap[w.heap.size]? = some (.cells #[a, b, c] T (0, 0)) := (hb.block w.heap.size (by simp)).trans (heap_alloc_new w _)
  exact ⟨fun o => (Below.heap_alloc _ _ _ (Array.getElem?_eq_some_iff.1 h1).1).trans h1, (below_alloc w _).trans (hb.mono (by simp)), by have := (Array.getElem?_eq_some_iff.1 h1).1; omega⟩
set_option maxHeartbeats 1000000 in
set_option maxRecDepth 20000 in
theorem wholeHead_gen (t : ByteArray) (l : Bool) (x y : Nat) (er : Int) (w : World) (h1 : (t.size : Int) ≤ 6000) (z : Bool) (hz : ((er == 0) && ((y : Int) == (t.size : Int))) = z)
    (hh : ∀ W, Calls Tryd.prog 62 #[.string t, .int .i64 0, .int .i64 (t.size : Int)] W fun e w' => e = .returned (.tuple #[hd l x y, .int .i64 er]) ∧ Below W.heap.size W w') :
    Calls Tryd.prog 61 #[.string t] w fun e w' => e = .returned (.tuple #[hd l x y, .bool z]) ∧ Below w.heap.size w w' := by
  have HH := hide hh
  clear hh
  have HZ := hide hz
  go_enter Tryd.func61, Tryd.ntmps61
  go_wp2_with fail
  refine (HH.out _).mono ?_
  rintro e w1 ⟨rfl, hb⟩
  obtain ⟨hra, hbw, hne1⟩ := box3 hb
  have hne2 : ¬ w.heap.size = w1.heap.size := fun e => hne1 e.symm
  have y0 : ∀ o, (w1.alloc o).cell? ⟨w.heap.size, 0, none⟩ = some (.bool false) := fun o => cell_of_row _ _ 0 _ _ (0, 0) (hra o)
  have y1 : ∀ o, (w1.alloc o).cell? ⟨w.heap.size, 1, none⟩ = some (.int .i64 0) := fun o => cell_of_row _ _ 1 _ _ (0, 0) (hra o)
  have y2 : ∀ o, (w1.alloc o).cell? ⟨w.heap.size, 2, none⟩ = some (.int .i64 0) := fun o => cell_of_row _ _ 2 _ _ (0, 0) (hra o)
  have f0 : ∀ o, (w1.alloc o).frozen? ⟨w.heap.size, 0, none⟩ = false := fun o => frozen_of_row _ w.heap.size 0 _ _ (hra o)
  have f1 : ∀ o, (w1.alloc o).frozen? ⟨w.heap.size, 1, none⟩ = false := fun o => frozen_of_row _ w.heap.size 1 _ _ (hra o)
  have f2 : ∀ o, (w1.alloc o).frozen? ⟨w.heap.size, 2, none⟩ = false := fun o => frozen_of_row _ w.heap.size 2 _ _ (hra o)
  have HRA := hide (And.intro hra hbw)
  clear hra hbw hb
  unfold hd
  by_cases he : er = 0
  · subst he
    have hz2 : ((y : Int) == (t.size : Int)) = z := by simpa using hz
    clear hz
    go_wp2
    go_region
    all_goals go_wp2
    all_goals
      have hfin := three_set (HRA.out.1 (.cells #[.bool l, .int .i64 (x : Int), .int .i64 (y : Int)] 123)) (.bool l) (.int .i64 (x : Int)) (.int .i64 (y : Int))
      have r0 := cell_of_row _ _ 0 _ _ (0, 0) hfin
      have r1 := cell_of_row _ _ 1 _ _ (0, 0) hfin
      have r2 := cell_of_row _ _ 2 _ _ (0, 0) hfin
      refine bodyPost_ret (v := .tuple #[.agg #[.bool l, .int .i64 (x : Int), .int .i64 (y : Int)], .bool z]) (by simp [results, Tryd.results61, go_sem, r0, r1, r2]) rfl ⟨rfl, ?_⟩
      exact (below_three (HRA.out.2.alloc HRA.out.2.size _) (Nat.le_refl _) _ _ _).drew
  · have he2 : (er == 0) = false := by simpa using he
    obtain rfl : z = false := by rw [← hz, he2]; rfl
    clear hz he HZ
    go_wp2
    go_region
    all_goals go_wp2
    all_goals
      have hfin := three_set (HRA.out.1 (.cells #[.bool l, .int .i64 (x : Int), .int .i64 (y : Int)] 123)) (.bool l) (.int .i64 (x : Int)) (.int .i64 (y : Int))
      have r0 := cell_of_row _ _ 0 _ _ (0, 0) hfin
      have r1 := cell_of_row _ _ 1 _ _ (0, 0) hfin
      have r2 := cell_of_row _ _ 2 _ _ (0, 0) hfin
      refine bodyPost_ret (v := .tuple #[.agg #[.bool l, .int .i64 (x : Int), .int .i64 (y : Int)], .bool false]) (by simp [results, Tryd.results61, go_sem, r0, r1, r2]) rfl ⟨rfl, ?_⟩
      exact (below_three (HRA.out.2.alloc HRA.out.2.size _) (Nat.le_refl _) _ _ _).drew
theorem wholeHead_some (t : ByteArray) (l : Bool) (x y : Nat) (w : World) (ht : t.size ≤ 6000) (h : hdN t 0 t.size = some (l, x, y)) :
    Calls Tryd.prog 61 #[.string t] w fun e w' => e = .returned (.tuple #[hd l x y, .bool (decide (y = t.size))]) ∧ Below w.heap.size w w' := by
  refine wholeHead_gen t l x y 0 w (by omega) _ ?_ (fun W => readHead_some t 0 t.size l x y W (Nat.le_refl _) ht h)
  rw [Bool.eq_iff_iff]
  simp only [beq_self_eq_true, Bool.true_and, beq_iff_eq, decide_eq_true_eq]
  omega
theorem wholeHead_none (t : ByteArray) (w : World) (ht : t.size ≤ 6000) (h : hdN t 0 t.size = none) :
    Calls Tryd.prog 61 #[.string t] w fun e w' => e = .returned (.tuple #[hd false 0 0, .bool false]) ∧ Below w.heap.size w w' := by
  obtain ⟨er, her, hcall⟩ := readHead_none t 0 t.size (Nat.le_refl _) ht h
  exact wholeHead_gen t false 0 0 er w (by omega) false (by simp [her]) hcall

/-- what item.Text answers -/
def TextPost (t : ByteArray) (w : World) (e : Ending) (w' : World) : Prop := e = .returned (.tuple #[.string ((txt t).getD ⟨#[]⟩), .bool (txt t).isSome]) ∧ Below w.heap.size w w'
set_option maxHeartbeats 1000000 in
set_option maxRecDepth 20000 in
theorem text_any (t : ByteArray) (w : World) (ht : t.size ≤ 6000) : Calls Tryd.prog 63 #[.string t] w fun e w' => TextPost t w e w' := by
  cases hh : hdN t 0 t.size with
  | none =>
    have HT : Hid (txt t = none) := by show _ = _; unfold txt; rw [hh]
    have HH := hide (fun W => wholeHead_none t W ht hh)
    clear hh
    go_enter Tryd.func63, Tryd.ntmps63
    go_wp2_with fail
    refine (HH.out _).mono ?_
    rintro e w1 ⟨rfl, hb⟩
    unfold hd
    go_wp2
    go_ret2
    exact ⟨by rw [HT.out]; rfl, hb.alloc hb.size _⟩
  | some p =>
    obtain ⟨l, x, y⟩ := p
    have hle := hdN_le hh
    have HH := hide (fun W => wholeHead_some t l x y W ht hh)
    by_cases hy : y = t.size
    · cases l with
      | true =>
        have HT : Hid (txt t = none) := by show _ = _; unfold txt; rw [hh]
        have hy2 : decide (y = t.size) = true := by simpa using hy
        rw [hy2] at HH
        clear hh hy2
        go_enter Tryd.func63, Tryd.ntmps63
        go_wp2_with fail
        refine (HH.out _).mono ?_
        rintro e w1 ⟨rfl, hb⟩
        unfold hd
        go_wp2
        go_ret2
        exact ⟨by rw [HT.out]; rfl, hb.alloc hb.size _⟩
      | false =>
        have HT : Hid (txt t = some (t.extract x y)) := by show _ = _; unfold txt; rw [hh]; simp only; rw [if_pos hy]
        have hy2 : decide (y = t.size) = true := by simpa using hy
        rw [hy2] at HH
        have i1 : (x : Int) ≤ (y : Int) := by omega
        have i2 : (y : Int) ≤ (t.size : Int) := by omega
        have i3 : (0 : Int) ≤ (x : Int) := by omega
        clear hh hy2 hy
        go_enter Tryd.func63, Tryd.ntmps63
        go_wp2_with fail
        refine (HH.out _).mono ?_
        rintro e w1 ⟨rfl, hb⟩
        unfold hd
        go_wp2
        go_ret2
        exact ⟨by rw [HT.out]; rfl, hb.alloc hb.size _⟩
    · have HT : Hid (txt t = none) := by
        show _ = _; unfold txt; rw [hh]
        cases l
        · simp only; rw [if_neg hy]
        · rfl
      have hy2 : decide (y = t.size) = false := by simpa using hy
      rw [hy2] at HH
      clear hh hy2 hy
      go_enter Tryd.func63, Tryd.ntmps63
      go_wp2_with fail
      refine (HH.out _).mono ?_
      rintro e w1 ⟨rfl, hb⟩
      unfold hd
      go_wp2
      go_ret2
      exact ⟨by rw [HT.out]; rfl, hb.alloc hb.size _⟩
end Go.Proofs.YtkegignigkhleaaDoor
namespace Go.Proofs.YtkegignigkhleaaDoor
open Go.RowKit
attribute [local go_sem ↓] Go.wp_at_zero Go.wp_at_succ

theorem infoS : (Tryd.prog.info? 9).map (fun i => (i.zero, i.size, i.bytes)) = some (some (.string ⟨#[]⟩), 1, 16) := by kernel_rfl
/-- what item.Items answers -/
def ItemsPost (t : ByteArray) (w : World) (e : Ending) (w' : World) : Prop := match itemsOf t with
  | none => e = .returned (.tuple #[.slice none 0 0, .bool false]) ∧ Below w.heap.size w w'
  | some ts => ∃ v, e = .returned (.tuple #[v, .bool true]) ∧ w'.ownsRow w.heap.size 9 1 v ts.length (ts.map Value.string) ∧ Below w.heap.size w w'
theorem ItemsPost.none {t : ByteArray} {w w' : World} {e : Ending} (h : itemsOf t = none) (h1 : e = .returned (.tuple #[.slice .none 0 0, .bool false])) (h2 : Below w.heap.size w w') : ItemsPost t w e w' := by
  unfold ItemsPost; rw [h]; exact ⟨h1, h2⟩
theorem ItemsPost.some {t : ByteArray} {ts : List ByteArray} {w w' : World} {e : Ending} (h : itemsOf t = some ts) (h1 : ∃ v, e = .returned (.tuple #[v, .bool true]) ∧ w'.ownsRow w.heap.size 9 1 v ts.length (ts.map Value.string) ∧ Below w.heap.size w w') : ItemsPost t w e w' := by
  unfold ItemsPost; rw [h]; exact h1
set_option maxHeartbeats 1000000 in
set_option maxRecDepth 20000 in
theorem items_no (t : ByteArray) (w : World) (ht : t.size ≤ 6000) (hn : itemsOf t = none) (h : ∀ x, hdN t 0 t.size = some (true, x, t.size) → False) : Calls Tryd.prog 50 #[.string t] w fun e w' => ItemsPost t w e w' := by
  have HN := hide hn
  cases hh : hdN t 0 t.size with
  | none =>
    have HH := hide (fun W => wholeHead_none t W ht hh)
    clear hh h hn
    go_enter Tryd.func50, Tryd.ntmps50
    go_wp2_with fail
    refine (HH.out _).mono ?_
    rintro e w1 ⟨rfl, hb⟩
    unfold hd
    go_wp2
    go_ret2
    exact ItemsPost.none HN.out rfl (hb.alloc hb.size _)
  | some p =>
    obtain ⟨l, x, y⟩ := p
    have HH := hide (fun W => wholeHead_some t l x y W ht hh)
    by_cases hy : y = t.size
    · cases l with
      | true => subst hy; exact absurd hh (fun e => h x e)
      | false =>
        have hy2 : decide (y = t.size) = true := by simpa using hy
        rw [hy2] at HH
        clear hh hy2 h hn
        go_enter Tryd.func50, Tryd.ntmps50
        go_wp2_with fail
        refine (HH.out _).mono ?_
        rintro e w1 ⟨rfl, hb⟩
        unfold hd
        go_wp2
        go_ret2
        exact ItemsPost.none HN.out rfl (hb.alloc hb.size _)
    · have hy2 : decide (y = t.size) = false := by simpa using hy
      rw [hy2] at HH
      clear hh hy2 hy h hn
      go_enter Tryd.func50, Tryd.ntmps50
      go_wp2_with fail
      refine (HH.out _).mono ?_
      rintro e w1 ⟨rfl, hb⟩
      unfold hd
      go_wp2
      go_ret2
      exact ItemsPost.none HN.out rfl (hb.alloc hb.size _)
set_option maxHeartbeats 4000000 in
set_option maxRecDepth 20000 in
theorem items_list (t : ByteArray) (w : World) (ht : t.size ≤ 6000) (x : Nat) (h : hdN t 0 t.size = some (true, x, t.size)) : Calls Tryd.prog 50 #[.string t] w fun e w' => ItemsPost t w e w' := by
  obtain ⟨i0, hi, hz0, hz1, hz2⟩ := info_parts infoS
  have hle := hdN_le h
  have HI : Hid (itemsOf t = cutsN t t.size (t.size - x) x) := by
    show _ = _; unfold itemsOf; rw [h]; simp only; rw [if_pos trivial]
  have HH := hide (fun W => wholeHead_some t true x t.size W ht h)
  have hy2 : decide (t.size = t.size) = true := by simp
  rw [hy2] at HH
  clear h hy2
  go_enter Tryd.func50, Tryd.ntmps50
  go_wp2_with fail
  refine (HH.out _).mono ?_
  rintro e w1 ⟨rfl, hb⟩
  unfold hd
  have hbw : Below w.heap.size w w1 := hb
  have HBW := hide hbw
  clear hb hbw
  have hbx : ∀ W, Below (w1.heap.size + 1) (w1.alloc (.cells #[.bool true, .int .i64 (x : Int), .int .i64 (t.size : Int)] 123)) W → W.heap[w1.heap.size]? = some (.cells #[.bool true, .int .i64 (x : Int), .int .i64 (t.size : Int)] 123 (0, 0)) := fun W hW => (hW.block w1.heap.size (by omega)).trans (heap_alloc_new w1 _)
  have HBX := hide hbx
  clear hbx
  have HRS := hide (fun a l x' y W => readHead_some t a t.size l x' y W (Nat.le_refl _) ht)
  have HRN := hide (fun a => readHead_none t a t.size (Nat.le_refl _) ht)
  have HTS := hide ht
  have HX := hide hle
  clear hle ht
  go_wp2_with fail
  go_loopw [6, 7] (fun v i wr => ∃ (a m : Nat) (us : List ByteArray), i = .int .i64 (a : Int) ∧ a ≤ t.size ∧ us.length ≤ a ∧ t.size - a ≤ m ∧ cutsN t t.size (t.size - x) x = (cutsN t t.size m a).map (us ++ ·) ∧ wr.ownsRow (w1.heap.size + 1) 9 1 v us.length (us.map Value.string) ∧ Below (w1.heap.size + 1) (w1.alloc (.cells #[.bool true, .int .i64 (x : Int), .int .i64 (t.size : Int)] 123)) wr) (fun _ i _ => t.size - (intOf i).toNat)
  case atStart => exact ⟨x, t.size - x, [], rfl, HX.out.2.2.1, by simp, Nat.le_refl _, by cases cutsN t t.size (t.size - x) x <;> simp, World.ownsRow_nil _ _ _ _, Below.refl _ _⟩
  case round =>
    obtain ⟨a, m, us, rfl, ha, hul, hm, hcut, hown, hbel⟩ := hrel
    have hbk := HBX.out wr hbel
    have c2 : wr.cell? ⟨w1.heap.size, 2, none⟩ = some (.int .i64 (t.size : Int)) := cell_of_row _ _ 2 _ _ (0, 0) hbk
    have HOW := hide (And.intro hown hbel)
    have HCU := hide hcut
    clear hown hbel hcut hbk
    by_cases hlt : a < t.size
    · have i1 : (a : Int) < (t.size : Int) := by omega
      cases m with
      | zero => omega
      | succ m =>
        cases hh : hdN t a t.size with
        | none =>
          have HE : Hid (itemsOf t = none) := by
            show _ = _
            rw [HI.out, HCU.out, cutsN, if_pos hlt, hh]; rfl
          obtain ⟨er, her, hcall⟩ := HRN.out a hh
          have he2 : (er != 0) = true := by simpa using her
          have HCL := hide hcall
          clear hh hcall
          go_wp2_with fail
          refine (HCL.out _).mono ?_
          rintro e w3 ⟨rfl, hb3⟩
          unfold hd
          go_wp2
          go_ret2
          exact ItemsPost.none HE.out rfl (((HBW.out.alloc HBW.out.size _).trans (HOW.out.2.mono (by have := HBW.out.size; omega))).trans ((hb3.mono (by have := HBW.out.size; have h2 := HOW.out.2.size; simp at h2; omega))) |>.alloc (by have := HBW.out.size; have h2 := HOW.out.2.size; have := hb3.size; simp at h2; omega) _)
        | some p =>
          obtain ⟨l, x', y⟩ := p
          have hle := hdN_le hh
          have HCL := hide (fun W => HRS.out a l x' y W hh)
          have HCU2 : Hid (cutsN t t.size (t.size - x) x = (cutsN t t.size m y).map ((us ++ [t.extract a y]) ++ ·)) := by
            show _ = _
            rw [HCU.out, cutsN, if_pos hlt, hh]
            simp only [Option.map_map]
            congr 1
            funext l
            simp
          clear hh
          go_wp2_with fail
          refine (HCL.out _).mono ?_
          rintro e w3 ⟨rfl, hb3⟩
          unfold hd
          have hsz := HOW.out.2.size
          rw [World.size_alloc] at hsz
          have hsz3 := hb3.size
          have HOX : Hid (((w3.alloc (.cells #[.bool l, .int .i64 (x' : Int), .int .i64 (y : Int)] 123)).alloc (.cells #[.string (t.extract a y)] 9)).ownsRow (w1.heap.size + 1) 9 1 u6 us.length (us.map Value.string)) :=
            own_far HOW.out.1 (fun g _ hg => (((hb3.alloc hb3.size _).alloc (by simp only [World.size_alloc]; omega) _).block g hg))
          have HNW : Hid (∀ j u, [Value.string (t.extract a y)][j]? = some u → ((w3.alloc (.cells #[.bool l, .int .i64 (x' : Int), .int .i64 (y : Int)] 123)).alloc (.cells #[.string (t.extract a y)] 9)).cell? ((⟨w3.heap.size + 1, 0, none⟩ : Addr).add j) = some u) := by
            have h := news_ofT (w3.alloc (.cells #[.bool l, .int .i64 (x' : Int), .int .i64 (y : Int)] 123)) 9 [.string (t.extract a y)]
            rw [World.size_alloc] at h
            exact h
          have hob : ∀ g, u6.ownBlock = some g → g < wr.heap.size := fun g e => by
            rcases HOW.out.1.2 with ⟨rfl, _⟩ | ⟨g', c', cur, rfl, _, hg, _⟩
            · cases e
            · obtain rfl : g' = g := by simpa [Value.ownBlock] using e
              exact (Array.getElem?_eq_some_iff.1 hg).1
          have HOB := hide hob
          clear hob
          have j1 : (a : Int) ≤ (y : Int) := by omega
          have j2 : (y : Int) ≤ (t.size : Int) := by omega
          have j3 : (0 : Int) ≤ (a : Int) := by omega
          go_wp2_with (at_builtin; go_must (refine wpList_append_lies _ rfl (.tmp 38) (.tmp 44) 22 rfl (w1.heap.size + 1) 9 i0 (.string ⟨#[]⟩) 1 16 Tryd.underlying22 hi hz0 hz1 hz2 rfl (by decide) u6 us.length (us.map Value.string) rfl HOX.out (⟨w3.heap.size + 1, 0, none⟩ : Addr) 1 1 [.string (t.extract a y)] (by simp [Act.eval]) (by rfl) HNW.out (by simp [Value.oneCell']) (by omega) (by have := HTS.out; unfold maxLen; omega) (by have := HTS.out; omega) (by simp only [World.size_alloc]; omega) _ rfl ?_); intro g4 c4 w4 ho4 hg4 hat4 hlt4; go_must (have HG := hide (And.intro ho4 hg4)); go_must (have hin : w4.heap[w3.heap.size]? = some (.cells #[.bool l, .int .i64 (x' : Int), .int .i64 (y : Int)] 123 (0, 0)) := (by rw [hg4.block w3.heap.size (by simp only [World.size_alloc]; omega) (fun e => by have := HOB.out _ e.symm; omega), Below.heap_alloc _ _ _ (by simp)]; exact heap_alloc_new w3 _)); go_must (have y4 : w4.cell? ⟨w3.heap.size, 2, none⟩ = some (.int .i64 (y : Int)) := cell_of_row _ _ 2 _ _ (0, 0) hin); clear ho4 hg4 hat4 hlt4 hin)
          go_roundw
          case rel =>
            refine ⟨y, m, us ++ [t.extract a y], by go_num, by omega, by simp only [List.length_append, List.length_cons, List.length_nil]; omega, by omega, HCU2.out, by simpa using HG.out.1, ?_⟩
            have hb4 := (HOW.out.2.trans ((hb3.mono (by omega)))).alloc (o := .cells #[.bool l, .int .i64 (x' : Int), .int .i64 (y : Int)] 123) (by omega)
            exact (hb4.alloc (by simp only [World.size_alloc]; omega) _).grown HG.out.2 (by simp only [World.size_alloc]; omega) (own_ge HOX.out (Nat.le_refl _))
          case measure => simp [intOf]; omega
    · obtain rfl : a = t.size := by omega
      have i1 : (t.size : Int) ≤ (t.size : Int) := by omega
      have HE : Hid (itemsOf t = some us) := by
        show _ = _
        rw [HI.out, HCU.out]
        cases m with
        | zero => simp [cutsN]
        | succ m => rw [cutsN, if_neg hlt]; simp
      go_wp2
      go_ret2
      refine ItemsPost.some HE.out ⟨_, rfl, own_base HOW.out.1 (by have := HBW.out.size; omega), ?_⟩
      exact (HBW.out.alloc HBW.out.size _).trans (HOW.out.2.mono (by have := HBW.out.size; omega))
theorem items_any (t : ByteArray) (w : World) (ht : t.size ≤ 6000) : Calls Tryd.prog 50 #[.string t] w fun e w' => ItemsPost t w e w' := by
  by_cases h : ∃ x, hdN t 0 t.size = some (true, x, t.size)
  · obtain ⟨x, h⟩ := h
    exact items_list t w ht x h
  · refine items_no t w ht ?_ (fun x hx => h ⟨x, hx⟩)
    unfold itemsOf
    split
    · rename_i x y e
      split
      · rename_i hy; subst hy; exact absurd ⟨_, e⟩ h
      · rfl
    · rfl
end Go.Proofs.YtkegignigkhleaaDoor
