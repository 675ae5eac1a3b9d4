/-
  OUR OWN: VqL VqM VqN VqO VqP VqQ.
-/
import Derived.Test.YtkegignigkhleaaDoorG24
import Derived.Test.YtkegignigkhleaaDoorG26
import Derived.Test.YtkegignigkhleaaDoorG31
namespace Go.Proofs.YtkegignigkhleaaDoor
open Go.RowKit
attribute [local go_sem ↓] Go.wp_at_zero Go.wp_at_succ

/-- the texts whose turn has not come, on the shelf S -/
structure Sh (w : World) (S : Nat) (ts : List ByteArray) : Prop where
  held : ∃ ao cap, w.heap[S]? = some (.cells #[.slice ao ts.length cap, .bool true] 34 (0, 0)) ∧ ts.length ≤ cap ∧ ∀ i, i < ts.length → ∃ g o, ao = some ⟨g, o, none⟩ ∧ g ≠ S ∧ w.cell? ⟨g, o + i * 2 + 1, none⟩ = some (.string (ts.getD i eB))
theorem Sh.lt {w : World} {S : Nat} {ts : List ByteArray} (h : Sh w S ts) : S < w.heap.size := by
  obtain ⟨ao, cap, h1, _⟩ := h
  exact (Array.getElem?_eq_some_iff.1 h1).1
theorem Sh.keep {w w' : World} {S : Nat} {ts : List ByteArray} (h : Sh w S ts) (hb : Below w.heap.size w w') : Sh w' S ts := by
  have hl := h.lt
  obtain ⟨ao, cap, h1, h2, h3⟩ := h
  refine ⟨ao, cap, (hb.block S hl).trans h1, h2, fun i hi => ?_⟩
  obtain ⟨g, o, e, hne, hc⟩ := h3 i hi
  exact ⟨g, o, e, hne, (hb.cell (p := ⟨g, o + i * 2 + 1, none⟩) (World.block_lt_of_cell? w _ hc)).trans hc⟩

set_option maxHeartbeats 2000000 in
set_option maxRecDepth 20000 in
theorem shelf_none (S : Nat) (h : ByteArray) (w : World) (hu : Sh w S []) :
    Calls Tryd.prog 29 #[ptr S, .string h] w fun e w' => e = .returned (.tuple #[.string ⟨#[]⟩, .int .i64 11]) ∧ Below w.heap.size w w' := by
  obtain ⟨ao, cap, h1, _⟩ := hu
  have c0 : w.cell? ⟨S, 0, none⟩ = some (.slice ao 0 cap) := cell_of_row _ _ 0 _ _ (0, 0) h1
  have c1 : w.cell? ⟨S, 1, none⟩ = some (.bool true) := cell_of_row _ _ 1 _ _ (0, 0) h1
  clear h1
  unfold ptr
  go_enter Tryd.func29, Tryd.ntmps29
  go_wp2
  go_ret2
  exact ⟨rfl, Below.refl _ _⟩
set_option maxHeartbeats 4000000 in
set_option maxRecDepth 20000 in
theorem shelf_some (S : Nat) (h t : ByteArray) (ts : List ByteArray) (w : World) (hu : Sh w S (t :: ts)) (hm : t.size ≤ 140737488351232) (rv : Value) (hrv : rv = if hashOf t = h then .tuple #[.string t, .int .i64 0] else .tuple #[.string ⟨#[]⟩, .int .i64 12]) :
    Calls Tryd.prog 29 #[ptr S, .string h] w fun e w' => w.grownBy w' (some S) ∧ Sh w' S ts ∧ e = .returned rv := by
  have hl := hu.lt
  obtain ⟨ao, cap, h1, h2, h3⟩ := hu
  obtain ⟨g, o, rfl, hne, hc0⟩ := h3 0 (by simp)
  simp only [List.getD_cons_zero, Nat.zero_mul, Nat.add_zero] at hc0
  have hgl : g < w.heap.size := World.block_lt_of_cell? w _ hc0
  have c0 : w.cell? ⟨S, 0, none⟩ = some (.slice (some ⟨g, o, none⟩) (ts.length + 1) cap) := cell_of_row _ _ 0 _ _ (0, 0) h1
  have c1 : w.cell? ⟨S, 1, none⟩ = some (.bool true) := cell_of_row _ _ 1 _ _ (0, 0) h1
  have z0 : w.frozen? ⟨S, 0, none⟩ = false := frozen_of_row _ _ 0 _ _ h1
  have HH := hide (fun W => rHash_any t W hm)
  have p1 : (ts.length : Int) + 1 ≤ (cap : Int) := by simp at h2; omega
  have p2 : (((ts.length : Int) + 1) == 0) = false := beq_false_of_ne (by omega)
  have p3 : (1 : Int) ≤ (ts.length : Int) + 1 := by omega
  have p4 : (0 : Int) < (ts.length : Int) + 1 := by omega
  have HW0 : Hid (∀ (o2 c2 : Nat), (ts = [] ∨ o2 = o + 2) → ts.length ≤ c2 → w.grownBy (w.setCell ⟨S, 0, none⟩ (.slice (some ⟨g, o2, none⟩) ts.length c2)) (some S) ∧ Sh (w.setCell ⟨S, 0, none⟩ (.slice (some ⟨g, o2, none⟩) ts.length c2)) S ts) := fun o2 c2 ho hc2 => by
    have g1 := grown_one w S 0 (.slice (some ⟨g, o2, none⟩) ts.length c2)
    refine ⟨g1, ⟨some ⟨g, o2, none⟩, c2, heap_setCell_same w S 0 _ 34 (.slice (some ⟨g, o2, none⟩) ts.length c2) h1, hc2, fun i hi => ⟨g, o2, rfl, hne, ?_⟩⟩⟩
    rcases ho with rfl | rfl
    · simp at hi
    · obtain ⟨g', o', e, _, hc'⟩ := h3 (i + 1) (by simpa using hi)
      obtain ⟨rfl, rfl⟩ : g = g' ∧ o = o' := by simpa using e
      rw [List.getD_cons_succ] at hc'
      rw [show o + 2 + i * 2 + 1 = o + (i + 1) * 2 + 1 from by omega]
      exact (World.cell?_of_block (w := w) (a := ⟨g, o + (i + 1) * 2 + 1, none⟩) (g1.block g hgl (fun e => hne (by injection e)))).trans hc'
  clear h1 h2 h3
  have HR : Hid (∀ W0 W1, w.grownBy W0 (some S) → Sh W0 S ts → Below W0.heap.size W0 W1 → w.grownBy W1 (some S) ∧ Sh W1 S ts) := fun W0 W1 a b c => ⟨grown_then a c, b.keep c⟩
  unfold ptr
  by_cases hcap : cap = 1
  · subst hcap
    obtain rfl : ts = [] := List.length_eq_zero_iff.1 (by omega)
    simp only [List.length_nil] at *
    go_enter Tryd.func29, Tryd.ntmps29
    go_wp2_with fail
    refine (HH.out _).mono ?_
    rintro e w2 ⟨rfl, hb2⟩
    obtain ⟨r1, r2⟩ := HW0.out o 0 (.inl (by first | rfl | trivial)) (Nat.le_refl _)
    have HQ := hide (HR.out _ _ r1 r2 hb2)
    clear r1 r2 hb2
    by_cases he : hashOf t = h
    · have HV : Hid (rv = .tuple #[.string t, .int .i64 0]) := by show _ = _; rw [hrv, if_pos he]
      subst he
      clear hrv
      go_wp2
      go_ret2
      exact ⟨HQ.out.1, HQ.out.2, by rw [HV.out]; rfl⟩
    · have HV : Hid (rv = .tuple #[.string ⟨#[]⟩, .int .i64 12]) := by show _ = _; rw [hrv, if_neg he]
      have hq : ((hashOf t).toList == h.toList) = false := beq_false_of_ne (fun e => he (toList_inj e))
      clear hrv he
      go_wp2
      go_ret2
      exact ⟨HQ.out.1, HQ.out.2, by rw [HV.out]; rfl⟩
  · have hc1 : ¬ (cap : Int) = 1 := by omega
    go_enter Tryd.func29, Tryd.ntmps29
    go_wp2_with fail
    refine (HH.out _).mono ?_
    rintro e w2 ⟨rfl, hb2⟩
    obtain ⟨r1, r2⟩ := HW0.out (o + 2) (cap - 1) (.inr rfl) (by omega)
    have HQ := hide (HR.out _ _ r1 r2 hb2)
    clear r1 r2 hb2
    by_cases he : hashOf t = h
    · have HV : Hid (rv = .tuple #[.string t, .int .i64 0]) := by show _ = _; rw [hrv, if_pos he]
      subst he
      clear hrv
      go_wp2
      go_ret2
      exact ⟨HQ.out.1, HQ.out.2, by rw [HV.out]; rfl⟩
    · have HV : Hid (rv = .tuple #[.string ⟨#[]⟩, .int .i64 12]) := by show _ = _; rw [hrv, if_neg he]
      have hq : ((hashOf t).toList == h.toList) = false := beq_false_of_ne (fun e => he (toList_inj e))
      clear hrv he
      go_wp2
      go_ret2
      exact ⟨HQ.out.1, HQ.out.2, by rw [HV.out]; rfl⟩
end Go.Proofs.YtkegignigkhleaaDoor
namespace Go.Proofs.YtkegignigkhleaaDoor
open Go.RowKit
attribute [local go_sem ↓] Go.wp_at_zero Go.wp_at_succ

/-- what opening a hash answers -/
def OpenPost (S : Nat) (o : Option (List Th)) (ts : List ByteArray) (w : World) (e : Ending) (w' : World) : Prop :=
  w.grownBy w' (some S) ∧ Sh w' S ts ∧ match o with
    | some L => ∃ v, e = .returned (.tuple #[v, .int .i64 0]) ∧ ThRow w.heap.size w' v L
    | none => ∃ er : Int, er ≠ 0 ∧ e = .returned (.tuple #[.slice none 0 0, .int .i64 er])
theorem OpenPost.none {S : Nat} {o : Option (List Th)} {ts : List ByteArray} {w w' : World} {e : Ending} (ho : o = .none) (h1 : w.grownBy w' (some S) ∧ Sh w' S ts) (er : Int) (h2 : er ≠ 0) (h3 : e = .returned (.tuple #[.slice .none 0 0, .int .i64 er])) : OpenPost S o ts w e w' := by
  subst ho; exact ⟨h1.1, h1.2, er, h2, h3⟩
theorem OpenPost.some {S : Nat} {o : Option (List Th)} {L : List Th} {ts : List ByteArray} {w w' : World} {e : Ending} (ho : o = .some L) (h1 : w.grownBy w' (some S) ∧ Sh w' S ts) (v : Value) (h2 : ThRow w.heap.size w' v L) (h3 : e = .returned (.tuple #[v, .int .i64 0])) : OpenPost S o ts w e w' := by
  subst ho; exact ⟨h1.1, h1.2, v, h3, h2⟩
theorem txt_zero : txt (strOfNums [128]) = some ⟨#[]⟩ := by kernel_rfl
theorem flat_u {f : Nat} {t : ByteArray} {d : Nat} {n : Nx} (h : parseF f t d = some n) (p : List Int) (u : Bool) : flatX n p u = flatX n p false := by
  obtain ⟨_, h1, h2⟩ := parseF_WF f t d n h
  cases n with
  | nil => cases h1
  | hash _ => cases h2
  | leaf _ _ => rfl
  | ext _ _ => rfl
  | br _ _ => rfl
set_option maxHeartbeats 2000000 in
set_option maxRecDepth 20000 in
theorem open_none (S : Nat) (h : ByteArray) (ao : Option Addr) (pn cap : Nat) (under : Bool) (least : Int) (w : World) (hu : Sh w S []) :
    Calls Tryd.prog 19 #[ptr S, .string h, .slice ao pn cap, .bool under, .int .i64 least] w fun e w' => e = .returned (.tuple #[.slice none 0 0, .int .i64 11]) ∧ Below w.heap.size w w' := by
  have HT := hide (shelf_none S h w hu)
  unfold ptr at *
  clear hu
  go_enter Tryd.func19, Tryd.ntmps19
  go_wp2_with fail
  refine HT.out.mono ?_
  rintro e w1 ⟨rfl, hb⟩
  go_wp2
  go_ret2
  exact ⟨rfl, hb⟩
set_option maxHeartbeats 2000000 in
set_option maxRecDepth 20000 in
theorem open_wrong (S : Nat) (h t : ByteArray) (ts : List ByteArray) (ao : Option Addr) (pn cap : Nat) (under : Bool) (least : Int) (w : World) (hu : Sh w S (t :: ts)) (hm : t.size ≤ 140737488351232) (hh : hashOf t ≠ h) :
    Calls Tryd.prog 19 #[ptr S, .string h, .slice ao pn cap, .bool under, .int .i64 least] w fun e w' => OpenPost S none ts w e w' := by
  have HT := hide (shelf_some S h t ts w hu hm _ (by rw [if_neg hh]))
  unfold ptr at *
  clear hu
  go_enter Tryd.func19, Tryd.ntmps19
  go_wp2_with fail
  refine HT.out.mono ?_
  rintro e w1 ⟨h1, h2, rfl⟩
  go_wp2
  go_ret2
  exact OpenPost.none rfl ⟨h1, h2⟩ 12 (by decide) rfl
set_option maxHeartbeats 4000000 in
set_option maxRecDepth 20000 in
/-- no item was read -/
theorem open_unread (S : Nat) (t : ByteArray) (ts : List ByteArray) (ao : Option Addr) (cap : Nat) (p : List Int) (under : Bool) (least : Int) (w : World) (hu : Sh w S (t :: ts)) (hm : t.size ≤ 140737488351232)
    (hr : ∀ W, Calls Tryd.prog 30 #[.string t] W fun e w' => (∃ er : Int, er ≠ 0 ∧ e = .returned (.tuple #[it0, .int .i64 er])) ∧ Below W.heap.size W w') :
    Calls Tryd.prog 19 #[ptr S, .string (hashOf t), .slice ao p.length cap, .bool under, .int .i64 least] w fun e w' => OpenPost S none ts w e w' := by
  have HT := hide (shelf_some S (hashOf t) t ts w hu hm _ (by rw [if_pos rfl]))
  have HR := hide hr
  have HTh := hide (fun W => things_text 0 (strOfNums [128]) ⟨#[]⟩ ao cap p under W txt_zero)
  unfold ptr at *
  clear hu hr
  go_enter Tryd.func19, Tryd.ntmps19
  go_wp2_with fail
  refine HT.out.mono ?_
  rintro e w1 ⟨h1, h2, rfl⟩
  have HX := hide (And.intro h1 h2)
  clear h1 h2
  go_wp2_with fail
  refine (HR.out _).mono ?_
  rintro e w2 ⟨⟨er, her, rfl⟩, hb2⟩
  have HB2 := hide hb2
  have HE := hide her
  have e1 : (er != 0) = true := by simpa using her
  unfold it0 at *
  clear hb2 her
  go_wp2_with fail
  refine (HTh.out _).mono ?_
  intro e w3 hpp
  obtain ⟨ao3, n3, cap3, rfl, _, hb3⟩ := hpp.form
  have HB3 : Hid (Below w1.heap.size w1 w3) := by
    have h := HB2.out.alloc HB2.out.size (.cells #[.bool false, .string ⟨#[]⟩, .slice none 0 0] 75)
    exact h.trans (hb3.mono h.size)
  clear hpp hb3
  go_wp2
  go_ret2
  exact OpenPost.none rfl ⟨grown_then HX.out.1 HB3.out, HX.out.2.keep HB3.out⟩ 12 (by decide) rfl
theorem Sh.kpi {w w' : World} {S : Nat} {ts : List ByteArray} (h : Sh w S ts) (hg : w.grownBy w' (some S)) : KpI w w' := fun g cur hc => by
  rw [hg.block g (Array.getElem?_eq_some_iff.1 hc).1]
  · exact hc
  · intro e
    injection e with e
    subst e
    obtain ⟨ao, cap, h1, _⟩ := h
    rw [hc] at h1
    simp only [Option.some.injEq, Obj.cells.injEq] at h1
    exact absurd h1.2.1 (by decide)
set_option maxHeartbeats 4000000 in
set_option maxRecDepth 20000 in
/-- an item was read -/
theorem open_read (S : Nat) (t : ByteArray) (ts : List ByteArray) (ao : Option Addr) (cap : Nat) (p : List Int) (under least : Bool) (w : World) (hu : Sh w S (t :: ts)) (hm : t.size ≤ 6000) (hp : PSl w ao cap p) (hpl : p.length ≤ 200)
    (hr : ∀ W, Calls Tryd.prog 30 #[.string t] W fun e w' => (∃ c0 c1 c2, e = .returned (.tuple #[.agg #[c0, c1, c2], .int .i64 0]) ∧ ItB 8 w' [c0, c1, c2] t) ∧ Below W.heap.size W w')
    (o : Option (List Th)) (ho : o = match thB (parseF 33 t p.length) under with
      | none => none
      | some n => if least = true ∧ t.size < 32 then none else some (flatX n p under)) :
    Calls Tryd.prog 19 #[ptr S, .string (hashOf t), .slice ao p.length cap, .bool under, .int .i64 (if least = true then 32 else 0)] w fun e w' => OpenPost S o ts w e w' := by
  have HT := hide (shelf_some S (hashOf t) t ts w hu (by omega) _ (by rw [if_pos rfl]))
  have HR := hide hr
  have HPs : Hid (∀ W, w.grownBy W (some S) → PSl W ao cap p) := fun W hW => hp.keep (hu.kpi hW)
  have HTh : Hid (∀ W c0 c1 c2, ItB 8 W [c0, c1, c2] t → PSl W ao cap p → Calls Tryd.prog 31 #[.agg #[c0, c1, c2], .slice ao p.length cap, .bool under] W fun e w' => ThPost (thB (parseF 33 t p.length) under) p under W e w') := fun W c0 c1 c2 h1 h2 => things_top c0 c1 c2 t ao cap p under W h1 h2 hm hpl
  have HO := hide ho
  generalize thB (parseF 33 t p.length) under = tb at *
  unfold ptr at *
  obtain ⟨lv, hlv⟩ : ∃ lv : Int, lv = if least = true then 32 else 0 := ⟨_, rfl⟩
  rw [← hlv]
  have hlt : ((t.size : Int) < lv) ↔ (least = true ∧ t.size < 32) := by
    subst hlv
    cases least <;> simp <;> omega
  clear hu hr ho hp hlv
  go_enter Tryd.func19, Tryd.ntmps19
  go_wp2_with fail
  refine HT.out.mono ?_
  rintro e w1 ⟨h1, h2, rfl⟩
  have HX := hide (And.intro h1 h2)
  clear h1 h2
  go_wp2_with fail
  refine (HR.out _).mono ?_
  rintro e w2 ⟨⟨c0, c1, c2, rfl, hit⟩, hb2⟩
  have HB2 := hide (And.intro hb2 hit)
  obtain ⟨l0, b0, o0, n0, k0, hsh⟩ := hit.shape
  simp only [List.cons.injEq, and_true] at hsh
  obtain ⟨rfl, rfl, rfl⟩ := hsh
  clear hb2 hit
  have HTw := hide (HTh.out (w2.alloc (.cells #[.bool l0, .string b0, .slice o0 n0 k0] 75)) _ _ _ (HB2.out.2.keep (below_alloc _ _)) (HPs.out _ (grown_then HX.out.1 (HB2.out.1.alloc HB2.out.1.size _))))
  go_wp2_with fail
  refine HTw.out.mono ?_
  intro e w3 hpp
  obtain ⟨ao3, n3, cap3, rfl, hth, hb3⟩ := hpp.form
  have HB3 : Hid (Below w1.heap.size w1 w3) := by
    have h := HB2.out.1.alloc HB2.out.1.size (.cells #[.bool l0, .string b0, .slice o0 n0 k0] 75)
    exact h.trans (hb3.mono h.size)
  have HTH : Hid (∀ m, tb = some m → ThRow w.heap.size w3 (.slice ao3 n3 cap3) (flatX m p under)) := fun m hm => (hth m hm).2.base (by
    have a1 := HX.out.1.size
    have a2 := HB2.out.1.size
    rw [World.size_alloc]; omega)
  have HE : Hid (w.grownBy w3 (some S) ∧ Sh w3 S ts) := ⟨grown_then HX.out.1 HB3.out, HX.out.2.keep HB3.out⟩
  clear hpp hb3 hth HTw
  cases tb with
  | none =>
    simp only [Option.isSome_none]
    go_wp2
    go_ret2
    exact OpenPost.none HO.out HE.out 12 (by decide) rfl
  | some n =>
    simp only [Option.isSome_some]
    by_cases hc : least = true ∧ t.size < 32
    · have e1 : (t.size : Int) < lv := hlt.2 hc
      have HO2 : Hid (o = none) := by show _ = _; rw [HO.out]; simp only; rw [if_pos hc]
      clear hlt hc
      go_wp2
      go_ret2
      exact OpenPost.none HO2.out HE.out 12 (by decide) rfl
    · have e1 : lv ≤ (t.size : Int) := by
        by_cases h : (t.size : Int) < lv
        · exact absurd (hlt.1 h) hc
        · omega
      have HO2 : Hid (o = some (flatX n p under)) := by show _ = _; rw [HO.out]; simp only; rw [if_neg hc]
      have HF := hide (HTH.out n rfl)
      clear hlt hc
      go_wp2
      go_ret2
      exact OpenPost.some HO2.out HE.out _ HF.out rfl
theorem open_any (S : Nat) (h t : ByteArray) (ts : List ByteArray) (ao : Option Addr) (cap : Nat) (p : List Int) (under least : Bool) (w : World) (hu : Sh w S (t :: ts)) (hm : t.size ≤ 140737488351232) (hp : PSl w ao cap p) (hpl : p.length ≤ 200) :
    Calls Tryd.prog 19 #[ptr S, .string h, .slice ao p.length cap, .bool under, .int .i64 (if least = true then 32 else 0)] w fun e w' => OpenPost S (openV hashOf t h p under least) ts w e w' := by
  by_cases hh : hashOf t = h
  · subst hh
    by_cases hl : 6000 < t.size
    · rw [show openV hashOf t (hashOf t) p under least = none from by unfold openV; rw [if_pos (.inr hl)]]
      exact open_unread S t ts ao cap p under _ w hu hm (fun W => (read_long t W hl (by omega)).mono (fun e w' h => ⟨⟨1, by decide, h.1⟩, h.2⟩))
    · have he : openV hashOf t (hashOf t) p under least = match parseF 33 t p.length with
          | none => none
          | some n => if (under = true ∧ n.isBr = false) ∨ (least = true ∧ t.size < 32) then none else some (flatX n p false) := by
        unfold openV; rw [if_neg (by rintro (h | h); { exact h rfl }; { exact hl h })]
        cases parseF 33 t p.length <;> rfl
      by_cases hc : Can 8 t
      · refine open_read S t ts ao cap p under least w hu (by omega) hp hpl (fun W => (readB_any t W (by omega)).mono (fun e w' h => ⟨?_, h.2⟩)) _ ?_
        · rcases h.1 with ⟨c0, c1, c2, _, h1, h2⟩ | ⟨h1, _⟩
          · exact ⟨c0, c1, c2, h1, h2⟩
          · exact absurd hc h1
        · rw [he]
          cases hpf : parseF 33 t p.length with
          | none => rfl
          | some n =>
            simp only [thB]
            by_cases h1 : under = true ∧ n.isBr = false
            · rw [if_pos h1, if_pos (.inl h1)]
            · rw [if_neg h1]
              simp only
              by_cases h2 : least = true ∧ t.size < 32
              · rw [if_pos h2, if_pos (.inr h2)]
              · rw [if_neg h2, if_neg (by rintro (h | h); { exact h1 h }; { exact h2 h }), flat_u hpf p under]
      · have hn : parseF 33 t p.length = none := by
          cases hpf : parseF 33 t p.length with
          | none => rfl
          | some n => exact absurd (can_all hpf) hc
        rw [hn] at he
        simp only at he
        rw [he]
        refine open_unread S t ts ao cap p under _ w hu hm (fun W => (readB_any t W (by omega)).mono (fun e w' h => ⟨?_, h.2⟩))
        rcases h.1 with ⟨_, _, _, h1, _⟩ | ⟨_, h1⟩
        · exact absurd h1 hc
        · exact h1
  · rw [show openV hashOf t h p under least = none from by unfold openV; rw [if_pos (.inl hh)]]
    exact open_wrong S h t ts ao p.length cap under _ w hu hm hh
end Go.Proofs.YtkegignigkhleaaDoor
namespace Go.Proofs.YtkegignigkhleaaDoor
open Go.RowKit
attribute [local go_sem ↓] Go.wp_at_zero Go.wp_at_succ

theorem pre_len_le {q p : List Int} (h : q.isPrefixOf p = true) : q.length ≤ p.length := (List.isPrefixOf_iff_prefix.1 h).length_le
theorem pre_of {q p : List Int} (hl : q.length ≤ p.length) (h : ∀ j, j < q.length → p.getD j 0 = q.getD j 0) : q.isPrefixOf p = true := by
  rw [List.isPrefixOf_iff_prefix, List.prefix_iff_eq_take]
  apply List.ext_getElem
  · simp; omega
  · intro j h1 h2
    have := h j h1
    simp only [List.getD_eq_getElem?_getD, List.getElem?_eq_getElem h1, List.getElem?_eq_getElem (show j < p.length by omega), Option.getD_some] at this
    rw [List.getElem_take]
    exact this.symm
theorem pre_not {q p : List Int} {j : Nat} (hj : j < q.length) (h : p.getD j 0 ≠ q.getD j 0) : q.isPrefixOf p = false := by
  cases hc : q.isPrefixOf p with
  | false => rfl
  | true =>
    exfalso; apply h
    obtain ⟨r, rfl⟩ := List.isPrefixOf_iff_prefix.1 hc
    simp [List.getD_eq_getElem?_getD, List.getElem?_append_left hj]
theorem PSl.cellAt {w : World} {ao : Option Addr} {cap : Nat} {p : List Int} (h : PSl w ao cap p) (hn : 0 < p.length) : ∃ g o, ao = some ⟨g, o, none⟩ ∧ ∀ j, j < p.length → w.cell? ⟨g, o + j, none⟩ = some (.int .i64 (p.getD j 0)) := by
  obtain ⟨g, o, cur, h1, h2, h3⟩ := h.at' (List.length_pos_iff.1 hn)
  exact ⟨g, o, h1, fun j hj => (cell_of_row w g (o + j) cur _ (0, 0) h2).trans (h3 j hj)⟩
set_option maxHeartbeats 2000000 in
set_option maxRecDepth 20000 in
theorem begins_any (pa qa : Option Addr) (pc qc : Nat) (p q : List Int) (w : World) (hp : PSl w pa pc p) (hq : PSl w qa qc q) (hl : p.length ≤ 100000) (hm : q.length ≤ 100000) :
    Calls Tryd.prog 20 #[.slice pa p.length pc, .slice qa q.length qc] w fun e w' => e = .returned (.bool (q.isPrefixOf p)) ∧ Below w.heap.size w w' := by
  obtain ⟨z, hz⟩ : ∃ z, Hid (q.isPrefixOf p = z) := ⟨_, Eq.refl _⟩
  rw [hz.out]
  by_cases hlt : p.length < q.length
  · obtain rfl : z = false := by
      rw [← hz.out]
      cases hc : q.isPrefixOf p with
      | false => rfl
      | true => have := pre_len_le hc; omega
    have i1 : (p.length : Int) < (q.length : Int) := by omega
    clear hp hq
    go_enter Tryd.func20, Tryd.ntmps20
    go_wp2
    go_ret
    exact ⟨rfl, Below.refl _ _⟩
  · have i1 : (q.length : Int) ≤ (p.length : Int) := by omega
    have HP := hide hp
    have HQ := hide hq
    clear hp hq
    go_enter Tryd.func20, Tryd.ntmps20
    go_wp2_with fail
    go_loopw [5] (fun iv wr => ∃ i : Nat, i ≤ q.length ∧ iv = .int .i64 (i : Int) ∧ Below w.heap.size w wr ∧ ∀ j, j < i → p.getD j 0 = q.getD j 0) (fun iv _ => q.length - (intOf iv).toNat)
    case atStart => exact ⟨0, by omega, rfl, Below.refl _ _, fun j hj => by omega⟩
    case round =>
      obtain ⟨i, hi, rfl, hbw, hall⟩ := hrel
      have HA := hide hall
      have HB := hide hbw
      clear hall hbw
      by_cases hil : i < q.length
      · have j0 : (0 : Int) ≤ (i : Int) := by omega
        have j1 : (i : Int) < (q.length : Int) := by omega
        have j2 : (i : Int) < (p.length : Int) := by omega
        obtain ⟨g1, o1, rfl, hc1⟩ := (HP.out.keep (KpI.of_below HB.out)).cellAt (by omega)
        obtain ⟨g2, o2, rfl, hc2⟩ := (HQ.out.keep (KpI.of_below HB.out)).cellAt (by omega)
        have x1 := hc1 i (by omega)
        have x2 := hc2 i hil
        clear hc1 hc2
        have HE : Hid ((p.getD i 0 = q.getD i 0 → ∀ j, j < i + 1 → p.getD j 0 = q.getD j 0) ∧ (p.getD i 0 ≠ q.getD i 0 → z = false)) := ⟨fun h j hj => by
          by_cases e : j = i
          · rw [e]; exact h
          · exact HA.out j (by omega), fun h => by rw [← hz.out]; exact pre_not hil h⟩
        generalize p.getD i 0 = a at *
        generalize q.getD i 0 = b at *
        by_cases hab : a = b
        · have e1 : (a == b) = true := by simpa using hab
          have HA2 := hide (HE.out.1 hab)
          clear hab
          go_wp2_with fail
          go_region
          all_goals go_wp2
          all_goals go_roundw
          case rel => exact ⟨i + 1, by omega, by go_num, HB.out.drew, HA2.out⟩
          case measure => simp [intOf]; omega
        · obtain rfl := HE.out.2 hab
          have e1 : (a == b) = false := by simpa using hab
          clear hab
          go_wp2_with fail
          go_region
          all_goals go_wp2
          all_goals go_ret
          all_goals exact ⟨rfl, HB.out.drew⟩
      · obtain rfl : i = q.length := by omega
        obtain rfl : z = true := by rw [← hz.out]; exact pre_of (by omega) HA.out
        go_wp2
        go_ret
        exact ⟨rfl, HB.out⟩
theorem pre_same {p q : List Int} (h : p.length = q.length) : q.isPrefixOf p = decide (p = q) := by
  rw [Bool.eq_iff_iff, decide_eq_true_eq, List.isPrefixOf_iff_prefix]
  constructor
  · intro hp; exact (hp.eq_of_length h.symm).symm
  · intro e; rw [e]; exact List.prefix_refl _
set_option maxHeartbeats 2000000 in
set_option maxRecDepth 20000 in
theorem same_any (pa qa : Option Addr) (pc qc : Nat) (p q : List Int) (w : World) (hp : PSl w pa pc p) (hq : PSl w qa qc q) (hl : p.length ≤ 100000) (hm : q.length ≤ 100000) :
    Calls Tryd.prog 22 #[.slice pa p.length pc, .slice qa q.length qc] w fun e w' => e = .returned (.bool (decide (p = q))) ∧ Below w.heap.size w w' := by
  have HB := hide (begins_any pa qa pc qc p q w hp hq hl hm)
  clear hp hq
  by_cases hlen : p.length = q.length
  · rw [pre_same hlen] at HB
    generalize decide (p = q) = z at *
    have i1 : ((p.length : Int) == (q.length : Int)) = true := by simpa using (by omega : (p.length : Int) = (q.length : Int))
    clear hlen
    go_enter Tryd.func22, Tryd.ntmps22
    go_wp2_with fail
    refine HB.out.mono ?_
    rintro e w1 ⟨rfl, hb⟩
    go_wp2
    go_ret
    exact ⟨by simp, hb⟩
  · rw [show decide (p = q) = false from decide_eq_false (fun e => hlen (by rw [e]))]
    have i1 : ((p.length : Int) == (q.length : Int)) = false := beq_false_of_ne (by omega)
    clear hlen
    go_enter Tryd.func22, Tryd.ntmps22
    go_wp2
    go_ret
    exact ⟨by simp, Below.refl _ _⟩
end Go.Proofs.YtkegignigkhleaaDoor
namespace Go.Proofs.YtkegignigkhleaaDoor
open Go.RowKit
attribute [local go_sem ↓] Go.wp_at_zero Go.wp_at_succ

def th0 : Th := ⟨[], eB, eB, false⟩
theorem flatK_at (k : Nat) {css : List (List Value)} (h3 : ∀ c ∈ css, c.length = k) : ∀ (q j : Nat), q < css.length → j < k → css.flatten[q * k + j]? = (css.getD q [])[j]? := by
  induction css with
  | nil => intro q j hq; simp at hq
  | cons c r ih =>
    intro q j hq hj
    have hc : c.length = k := h3 c (List.mem_cons_self ..)
    cases q with
    | zero => rw [List.flatten_cons, List.getElem?_append_left (by omega)]; simp
    | succ q =>
      rw [List.flatten_cons, List.getElem?_append_right (by rw [Nat.succ_mul]; omega), hc, show (q + 1) * k + j - k = q * k + j from by rw [Nat.succ_mul]; omega, ih (fun c hc => h3 c (List.mem_cons_of_mem _ hc)) q j (by simpa using hq) hj]
      simp
theorem al_len4 {w : World} {css : List (List Value)} {L : List Th} (h : Al (ThAt w) css L) : ∀ c ∈ css, c.length = 4 := by
  induction h with
  | nil => intro c hc; cases hc
  | cons h _ ih =>
    intro c hc
    rcases List.mem_cons.1 hc with rfl | hc
    · obtain ⟨_, _, rfl, _⟩ := h; rfl
    · exact ih c hc
theorem al_thAt {w : World} {css : List (List Value)} {L : List Th} (h : Al (ThAt w) css L) (i : Nat) (hi : i < L.length) : ThAt w (css.getD i []) (L.getD i th0) := by
  have hl := h.len
  have := h.at i (by omega) hi
  rw [List.getD_eq_getElem?_getD, List.getElem?_eq_getElem (by omega), List.getD_eq_getElem?_getD, List.getElem?_eq_getElem hi]
  exact this
/-- a thing of a row -/
theorem ThRow.cellAt {base : Nat} {w : World} {v : Value} {L : List Th} (h : ThRow base w v L) (i : Nat) (hi : i < L.length) :
    ∃ g cap pa pc, v = .slice (some ⟨g, 0, none⟩) L.length cap ∧ PSl w pa pc (L.getD i th0).path ∧ w.cell? ⟨g, i * 4, none⟩ = some (.slice pa (L.getD i th0).path.length pc) ∧ w.cell? ⟨g, i * 4 + 1, none⟩ = some (.string (L.getD i th0).value) ∧ w.cell? ⟨g, i * 4 + 2, none⟩ = some (.string (L.getD i th0).hash) ∧ w.cell? ⟨g, i * 4 + 3, none⟩ = some (.bool (L.getD i th0).under) := by
  obtain ⟨css, ho, ha⟩ := h
  have hl := ha.len
  obtain ⟨pa, pc, hc, hp⟩ := al_thAt ha i hi
  obtain ⟨g, cap, rfl⟩ : ∃ g cap, v = .slice (some ⟨g, 0, none⟩) L.length cap := by
    rcases ho.2 with ⟨_, h0⟩ | ⟨g, c, cur, rfl, _⟩
    · omega
    · exact ⟨_, _, rfl⟩
  have hat : ∀ j u, j < 4 → (css.getD i [])[j]? = some u → w.cell? ⟨g, i * 4 + j, none⟩ = some u := fun j u hj hu => by
    have := ho.cells (g := g) rfl (i * 4 + j) u (by rw [flatK_at 4 (al_len4 ha) i j (by omega) hj]; exact hu)
    rwa [addr_add, Nat.zero_add] at this
  rw [hc] at hat
  exact ⟨g, cap, pa, pc, rfl, hp, hat 0 _ (by decide) rfl, hat 1 _ (by decide) rfl, hat 2 _ (by decide) rfl, hat 3 _ (by decide) rfl⟩
def Short (L : List Th) : Prop := ∀ x ∈ L, x.path.length ≤ 128
theorem Short.at {L : List Th} (h : Short L) (i : Nat) : (L.getD i th0).path.length ≤ 128 := by
  by_cases hi : i < L.length
  · rw [List.getD_eq_getElem?_getD, List.getElem?_eq_getElem hi]; exact h _ (List.getElem_mem hi)
  · rw [List.getD_eq_getElem?_getD, List.getElem?_eq_none (by omega)]; simp [th0]

/-- the value of a path -/
def atF (P : List Int) (x : Th) : Bool := decide (x.hash.size = 0) && decide (x.path = P)
def atR (L : List Th) (P : List Int) : Int := if L.any (atF P) then (L.findIdx (atF P) : Int) else -1
theorem findIdx_eq {α : Type} {f : α → Bool} {L : List α} {z : α} {i : Nat} (hi : i < L.length) (h : f (L.getD i z) = true) (hb : ∀ j, j < i → f (L.getD j z) = false) : L.any f = true ∧ L.findIdx f = i := by
  have e : ∀ j (hj : j < L.length), L.getD j z = L[j] := fun j hj => by rw [List.getD_eq_getElem?_getD, List.getElem?_eq_getElem hj]; rfl
  rw [e i hi] at h
  refine ⟨List.any_eq_true.2 ⟨_, List.getElem_mem hi, h⟩, ?_⟩
  rw [List.findIdx_eq hi]
  refine ⟨h, fun j hj => ?_⟩
  have := hb j hj
  rwa [e j (by omega)] at this
theorem any_none {α : Type} {f : α → Bool} {L : List α} {z : α} (hb : ∀ j, j < L.length → f (L.getD j z) = false) : L.any f = false := by
  rw [List.any_eq_false]
  intro x hx
  obtain ⟨j, hj, rfl⟩ := List.getElem_of_mem hx
  have := hb j hj
  rw [List.getD_eq_getElem?_getD, List.getElem?_eq_getElem hj] at this
  simpa using this
theorem str_empty {b : ByteArray} (h : b.size ≠ 0) : b.toList.isEmpty = false := by
  cases hs : b.toList with
  | nil =>
    exfalso; apply h
    have : b = ⟨#[]⟩ := toList_inj (by rw [hs]; simp [ByteArray.toList_eq])
    rw [this]; rfl
  | cons _ _ => rfl
set_option maxHeartbeats 2000000 in
set_option maxRecDepth 20000 in
theorem at_any (base : Nat) (v : Value) (L : List Th) (pa : Option Addr) (pc : Nat) (P : List Int) (w : World) (hr : ThRow base w v L) (hs : Short L) (hL : L.length ≤ 10000000000) (hp : PSl w pa pc P) (hm : P.length ≤ 100000) :
    Calls Tryd.prog 12 #[v, .slice pa P.length pc] w fun e w' => e = .returned (.int .i64 (atR L P)) ∧ Below w.heap.size w w' := by
  obtain ⟨ao, cap, rfl⟩ := hr.shape
  obtain ⟨R, hR⟩ : ∃ R, Hid (atR L P = R) := ⟨_, Eq.refl _⟩
  rw [hR.out]
  have HR := hide hr
  have HP := hide hp
  have HS := hide hs
  clear hr hp hs
  go_enter Tryd.func12, Tryd.ntmps12
  go_wp2_with fail
  go_loopw [5] (fun iv wr => ∃ i : Nat, i ≤ L.length ∧ iv = .int .i64 (i : Int) ∧ Below w.heap.size w wr ∧ ∀ j, j < i → atF P (L.getD j th0) = false) (fun iv _ => L.length - (intOf iv).toNat)
  case atStart => exact ⟨0, by omega, rfl, Below.refl _ _, fun j hj => by omega⟩
  case round =>
    obtain ⟨i, hi, rfl, hbw, hall⟩ := hrel
    have HA := hide hall
    have HB := hide hbw
    clear hall hbw
    by_cases hil : i < L.length
    · have j0 : (0 : Int) ≤ (i : Int) := by omega
      have j1 : (i : Int) < (L.length : Int) := by omega
      obtain ⟨g, cap', qa, qc, hv, hq, x0, x1, x2, x3⟩ := (HR.out.keep HB.out).cellAt i hil
      obtain ⟨rfl, rfl⟩ : ao = some ⟨g, 0, none⟩ ∧ cap = cap' := by simpa using hv
      have HSm := hide (same_any qa pa qc pc (L.getD i th0).path P wr hq (HP.out.keep (KpI.of_below HB.out)) (by have := HS.out.at i; omega) hm)
      have HK : Hid (∀ W, Below wr.heap.size wr W → W.cell? ⟨g, i * 4 + 2, none⟩ = some (.string (L.getD i th0).hash)) := fun W hW => (hW.cell (p := ⟨g, i * 4 + 2, none⟩) (World.block_lt_of_cell? wr _ x2)).trans x2
      have HAt : Hid (atF P (L.getD i th0) = (decide ((L.getD i th0).hash.size = 0) && decide ((L.getD i th0).path = P))) := rfl
      have HFi : Hid (atF P (L.getD i th0) = true → R = (i : Int)) := fun h => by
        obtain ⟨k1, k2⟩ := findIdx_eq hil h HA.out
        rw [← hR.out]; unfold atR; rw [k1, k2]; rfl
      generalize hx : L.getD i th0 = x at *
      have HX := hide hx
      clear hx hv hq x1 x3
      go_wp2_with fail
      refine HSm.out.mono ?_
      rintro e w2 ⟨rfl, hb2⟩
      have y2 := HK.out w2 hb2
      have HB2 : Hid (Below w.heap.size w w2) := HB.out.trans (hb2.mono HB.out.size)
      clear hb2 x0 x2
      by_cases hh : x.hash.size = 0
      · have hem : x.hash = ⟨#[]⟩ := empty_of_size hh
        rw [hem] at y2
        by_cases hpp : x.path = P
        · have ht : atF P x = true := by rw [HAt.out, decide_eq_true hh, decide_eq_true hpp]; rfl
          obtain rfl := HFi.out ht
          rw [decide_eq_true hpp]
          clear ht hem hh hpp
          go_wp2
          go_ret
          exact ⟨by simp, HB2.out⟩
        · have HF : Hid (∀ j, j < i + 1 → atF P (L.getD j th0) = false) := fun j hj => by
            by_cases e : j = i
            · rw [e, HX.out, HAt.out, decide_eq_false hpp]; simp
            · exact HA.out j (by omega)
          rw [decide_eq_false hpp]
          clear hem hh hpp
          go_wp2
          go_roundw
          case rel => exact ⟨i + 1, by omega, by go_num, HB2.out, HF.out⟩
          case measure => simp [intOf]; omega
      · have hne := str_empty hh
        have HF : Hid (∀ j, j < i + 1 → atF P (L.getD j th0) = false) := fun j hj => by
          by_cases e : j = i
          · rw [e, HX.out, HAt.out, decide_eq_false hh]; rfl
          · exact HA.out j (by omega)
        generalize decide (x.path = P) = z at *
        clear hh
        go_wp2
        go_roundw
        case rel => exact ⟨i + 1, by omega, by go_num, HB2.out, HF.out⟩
        case measure => simp [intOf]; omega
    · obtain rfl : i = L.length := by omega
      obtain rfl : R = -1 := by rw [← hR.out]; unfold atR; rw [any_none HA.out]; rfl
      go_wp2
      go_ret
      exact ⟨by simp, HB.out⟩
end Go.Proofs.YtkegignigkhleaaDoor
namespace Go.Proofs.YtkegignigkhleaaDoor
open Go.RowKit
attribute [local go_sem ↓] Go.wp_at_zero Go.wp_at_succ

/-- a slice that reads as a row of things -/
def ThRd (w : World) (v : Value) (L : List Th) : Prop := ∃ css, Reads w v L.length css.flatten ∧ Al (ThAt w) css L
theorem ThRow.rd {base : Nat} {w : World} {v : Value} {L : List Th} (h : ThRow base w v L) : ThRd w v L := by
  obtain ⟨css, h1, h2⟩ := h
  exact ⟨css, own_reads h1, h2⟩
theorem wpList_append_rd {ops : Array Oper} {rest : List Oper} {o : Oper} {a : Act} {Q : Exit → Act → World → Prop} {w : World} (hgd : o.guard = none) (s x : Operand)
    (ho : o.op = .call { callee := .builtin .append, args := #[s, x], argTypes := #[39, 39] })
    (base : Nat) (v : Value) (L : List Th) (hs : a.eval s = v) (h1 : ThRow base w v L) (sv : Value) (M : List Th) (hx : a.eval x = sv) (h2 : ThRd w sv M) (hl : L.length + M.length ≤ 1000000000000) (hb : base ≤ w.heap.size)
    (h : ∀ v' w', ThRow base w' v' (L ++ M) → w.grownBy w' v.ownBlock → (∀ k, v.ownBlock = some k → base ≤ k) → KpI w w' → wpList Tryd.prog ops Q rest (a.put o.dst v') w') : wpList Tryd.prog ops Q (o :: rest) a w := by
  obtain ⟨i0, hi, hz0, hz1, hz2⟩ := info_parts infoTh
  obtain ⟨css1, o1, a1⟩ := h1
  obtain ⟨css2, o2, a2⟩ := h2
  refine wpList_append_reads hgd s x _ ho base 45 i0 _ 4 64 Tryd.underlying39 hi hz0 hz1 hz2 rfl (by decide) v L.length _ hs o1 sv M.length _ hx o2 (al_things a2).1 (al_things a2).2 (by unfold maxLen; omega) (by omega) hb ?_
  intro v' w' ho' hg
  have hk : KpI w w' := KpI.of_grown o1 (by decide) hg
  refine h v' w' ⟨css1 ++ css2, ?_, (a1.append a2).mono (fun _ _ h => h.keep hk)⟩ hg (own_ge o1 (Nat.le_refl _)) hk
  rw [List.length_append, List.flatten_append]
  exact ho'
theorem Al.take {α β : Type} {R : α → β → Prop} {l : List α} {m : List β} (h : Al R l m) (n : Nat) : Al R (l.take n) (m.take n) := by
  induction h generalizing n with
  | nil => simp; exact .nil
  | cons h _ ih =>
    cases n with
    | zero => exact .nil
    | succ n => exact .cons h (ih n)
theorem Al.drop {α β : Type} {R : α → β → Prop} {l : List α} {m : List β} (h : Al R l m) (n : Nat) : Al R (l.drop n) (m.drop n) := by
  induction h generalizing n with
  | nil => simp; exact .nil
  | cons h h2 ih =>
    cases n with
    | zero => exact .cons h h2
    | succ n => exact ih n
theorem flat_take (k : Nat) : ∀ {css : List (List Value)} (_ : ∀ c ∈ css, c.length = k) (n : Nat), (css.take n).flatten = css.flatten.take (n * k)
  | [], _, n => by simp
  | c :: r, h, 0 => by simp
  | c :: r, h, n + 1 => by
    have hc := h c (List.mem_cons_self ..)
    rw [List.take_succ_cons, List.flatten_cons, List.flatten_cons, flat_take k (fun c hc => h c (List.mem_cons_of_mem _ hc)) n, List.take_append, hc, show (n + 1) * k - k = n * k from by rw [Nat.succ_mul]; omega, List.take_of_length_le (l := c) (by rw [hc, Nat.succ_mul]; omega)]
theorem flat_drop (k : Nat) : ∀ {css : List (List Value)} (_ : ∀ c ∈ css, c.length = k) (n : Nat), (css.drop n).flatten = css.flatten.drop (n * k)
  | [], _, n => by simp
  | c :: r, h, 0 => by simp
  | c :: r, h, n + 1 => by
    have hc := h c (List.mem_cons_self ..)
    rw [List.drop_succ_cons, List.flatten_cons, flat_drop k (fun c hc => h c (List.mem_cons_of_mem _ hc)) n, List.drop_append, hc, show (n + 1) * k - k = n * k from by rw [Nat.succ_mul]; omega, List.drop_of_length_le (l := c) (by rw [hc, Nat.succ_mul]; omega), List.nil_append]
theorem ThRow.rdTake {base : Nat} {w : World} {g n cap cap' : Nat} {L : List Th} (h : ThRow base w (.slice (some ⟨g, 0, none⟩) L.length cap) L) (hn : n ≤ L.length) : ThRd w (.slice (some ⟨g, 0, none⟩) n cap') (L.take n) := by
  obtain ⟨css, ho, ha⟩ := h
  refine ⟨css.take n, ?_, ha.take n⟩
  rw [List.length_take, Nat.min_eq_left hn, flat_take 4 (al_len4 ha)]
  refine .inr ⟨⟨g, 0, none⟩, cap', rfl, fun j u hu => ?_⟩
  refine ho.cells (g := g) rfl j u ?_
  rw [List.getElem?_take] at hu
  split at hu
  · exact hu
  · cases hu
theorem ThRow.rdDrop {base : Nat} {w : World} {g n cap cap' : Nat} {L : List Th} (h : ThRow base w (.slice (some ⟨g, 0, none⟩) L.length cap) L) : ThRd w (.slice (some ⟨g, n * 4, none⟩) (L.length - n) cap') (L.drop n) := by
  obtain ⟨css, ho, ha⟩ := h
  refine ⟨css.drop n, ?_, ha.drop n⟩
  rw [List.length_drop, flat_drop 4 (al_len4 ha)]
  refine .inr ⟨⟨g, n * 4, none⟩, cap', rfl, fun j u hu => ?_⟩
  have := ho.cells (g := g) rfl (n * 4 + j) u (by rw [List.getElem?_drop] at hu; exact hu)
  rw [addr_add] at this ⊢
  rwa [Nat.zero_add] at this
theorem ThRd.none (w : World) (ad : Addr) (cap : Nat) : ThRd w (.slice (some ad) 0 cap) [] := ⟨[], .inr ⟨ad, cap, rfl, fun j u hu => by cases hu⟩, .nil⟩
theorem ThRow.capLe {base : Nat} {w : World} {g cap : Nat} {L : List Th} (h : ThRow base w (.slice (some ⟨g, 0, none⟩) L.length cap) L) : L.length ≤ cap ∧ cap ≤ maxLen := by
  obtain ⟨css, ho, ha⟩ := h
  rcases ho.2 with ⟨h, _⟩ | ⟨g', c, cur, hh, _, _, h1, h2, _⟩
  · cases h
  · injection hh with _ _ e; subst e; exact ⟨h1, h2⟩
set_option maxHeartbeats 2000000 in
set_option maxRecDepth 20000 in
theorem replaced_any (base base2 : Nat) (v bv : Value) (L M : List Th) (i : Nat) (w : World) (hr : ThRow base w v L) (hb : ThRow base2 w bv M) (hi : i < L.length) (hL : L.length + M.length ≤ 1000000000000) :
    Calls Tryd.prog 21 #[v, .int .i64 (i : Int), bv] w fun e w' => ∃ rv, e = .returned rv ∧ ThRow w.heap.size w' rv (L.take i ++ M ++ L.drop (i + 1)) ∧ Below w.heap.size w w' := by
  obtain ⟨g, cap, _, _, rfl, _⟩ := hr.cellAt i hi
  obtain ⟨ao2, cap2, rfl⟩ := hb.shape
  obtain ⟨hc1, hc2⟩ := hr.capLe
  unfold maxLen at hc2
  have k0 : (0 : Int) ≤ (i : Int) := by omega
  have k1 : (i : Int) < (L.length : Int) := by omega
  have k2 : (L.length : Int) ≤ (cap : Int) := by omega
  have k3 : (i : Int) ≤ (cap : Int) := by omega
  have k4 : (i : Int) + 1 ≤ (L.length : Int) := by omega
  have k5 : IntKind.i64.wrap ((i : Int) + 1) = (i : Int) + 1 := by rw [IntKind.wrap_i64]; omega
  have HR := hide hr
  have HM := hide hb
  have HLn : Hid ((L.take i).length + M.length ≤ 1000000000000 ∧ (L.take i ++ M).length + (L.drop (i + 1)).length ≤ 1000000000000) := by
    show _ ∧ _
    simp only [List.length_append, List.length_take, List.length_drop]; omega
  have HD : Hid (∀ W, Below w.heap.size w W → ThRow base W (.slice (some ⟨g, 0, none⟩) L.length cap) L ∧ ThRow base2 W (.slice ao2 M.length cap2) M) := fun W hW => ⟨HR.out.keep hW, HM.out.keep hW⟩
  have H1 := hide (HR.out.rdTake (n := i) (cap' := cap) (by omega))
  clear hr hb
  by_cases hcap : cap = i + 1
  · have hln : L.length = i + 1 := by omega
    have HN : Hid (L.drop (i + 1) = []) := List.drop_eq_nil_of_le (by omega)
    subst hcap
    have HDr : Hid (∀ W, ThRd W (.slice (some ⟨g, 0, none⟩) 0 0) (L.drop (i + 1))) := fun W => by rw [HN.out]; exact ThRd.none _ _ _
    rw [hln] at *
    clear k1 k2 k4 hln hc1 hc2
    go_enter Tryd.func21, Tryd.ntmps21
    have tok1 : True := trivial
    have tok2 : True := trivial
    go_wp2_with (first
      | (at_builtin; clear tok1; go_must (refine wpList_append_rd rfl _ _ rfl w.heap.size _ _ rfl (ThRow.nil _ _) _ _ rfl H1.out (by have := HLn.out.1; simp only [List.length_nil]; omega) (Nat.le_refl _) ?_); intro v3 w3 hr3 hg3 hk3 hkp3; go_must (have HX3 := hide (And.intro hr3 hk3)); go_must (have HB3 : Hid (Below w.heap.size w w3) := (Below.refl _ _).grown hg3 (Nat.le_refl _) (fun k e => by cases e)); clear hr3 hg3 hk3 hkp3)
      | (at_builtin; clear tok2; go_must (refine wpList_append_rd rfl _ _ rfl w.heap.size _ _ rfl HX3.out.1 _ _ rfl (HD.out _ HB3.out).2.rd (by have := HLn.out.1; simp only [List.nil_append]; omega) HB3.out.size ?_); intro v4 w4 hr4 hg4 hk4 hkp4; go_must (have HX4 := hide (And.intro hr4 hk4)); go_must (have HB4 : Hid (Below w.heap.size w w4) := HB3.out.grown hg4 HB3.out.size hk4); clear hr4 hg4 hk4 hkp4)
      | (at_builtin; go_must (refine wpList_append_rd rfl _ _ rfl w.heap.size _ _ rfl HX4.out.1 _ _ rfl (HDr.out _) (by have := HLn.out.2; simp only [List.nil_append]; omega) HB4.out.size ?_); intro v5 w5 hr5 hg5 hk5 hkp5; go_must (have HX5 := hide (And.intro hr5 (HB4.out.grown hg5 HB4.out.size hk5))); clear hr5 hg5 hk5 hkp5))
    go_ret
    exact ⟨_, rfl, HX5.out.1, HX5.out.2⟩
  · have HDr : Hid (∀ W, Below w.heap.size w W → ThRd W (.slice (some ⟨g, (i + 1) * 4, none⟩) (L.length - (i + 1)) (cap - (i + 1))) (L.drop (i + 1))) := fun W hW => (HD.out W hW).1.rdDrop (n := i + 1) (cap' := cap - (i + 1))
    have hq : ¬ (cap : Int) = (i : Int) + 1 := by omega
    clear hc1 hc2 hcap
    go_enter Tryd.func21, Tryd.ntmps21
    have tok1 : True := trivial
    have tok2 : True := trivial
    go_wp2_with (first
      | (at_builtin; clear tok1; go_must (refine wpList_append_rd rfl _ _ rfl w.heap.size _ _ rfl (ThRow.nil _ _) _ _ rfl H1.out (by have := HLn.out.1; simp only [List.length_nil]; omega) (Nat.le_refl _) ?_); intro v3 w3 hr3 hg3 hk3 hkp3; go_must (have HX3 := hide (And.intro hr3 hk3)); go_must (have HB3 : Hid (Below w.heap.size w w3) := (Below.refl _ _).grown hg3 (Nat.le_refl _) (fun k e => by cases e)); clear hr3 hg3 hk3 hkp3)
      | (at_builtin; clear tok2; go_must (refine wpList_append_rd rfl _ _ rfl w.heap.size _ _ rfl HX3.out.1 _ _ rfl (HD.out _ HB3.out).2.rd (by have := HLn.out.1; simp only [List.nil_append]; omega) HB3.out.size ?_); intro v4 w4 hr4 hg4 hk4 hkp4; go_must (have HX4 := hide (And.intro hr4 hk4)); go_must (have HB4 : Hid (Below w.heap.size w w4) := HB3.out.grown hg4 HB3.out.size hk4); clear hr4 hg4 hk4 hkp4)
      | (at_builtin; go_must (refine wpList_append_rd rfl _ _ rfl w.heap.size _ _ rfl HX4.out.1 _ _ rfl (HDr.out _ HB4.out) (by have := HLn.out.2; simp only [List.nil_append]; omega) HB4.out.size ?_); intro v5 w5 hr5 hg5 hk5 hkp5; go_must (have HX5 := hide (And.intro hr5 (HB4.out.grown hg5 HB4.out.size hk5))); clear hr5 hg5 hk5 hkp5))
    go_ret
    exact ⟨_, rfl, HX5.out.1, HX5.out.2⟩
set_option maxHeartbeats 2000000 in
set_option maxRecDepth 20000 in
theorem rNone_any (w : World) : Calls Tryd.prog 18 #[] w fun e w' => e = .returned (.string root0) ∧ Below w.heap.size w w' := by
  have HH := hide (fun W => rHash_any code0 W (by decide))
  have HC : Hid (root0 = hashOf code0) := rfl
  go_enter Tryd.func18, Tryd.ntmps18
  go_wp2_with fail
  refine (HH.out _).mono ?_
  rintro e w1 ⟨rfl, hb⟩
  go_wp2
  go_ret
  exact ⟨by rw [HC.out]; rfl, hb⟩
end Go.Proofs.YtkegignigkhleaaDoor
namespace Go.Proofs.YtkegignigkhleaaDoor
open Go.RowKit

theorem ref_short {P : ByteArray → Nat → Option Nx} (hP : ∀ t n p u, P t (p : List Int).length = some n → Short (flatX n p u)) {t : ByteArray} {n : Nx} {p : List Int} (u : Bool) (hp : p.length ≤ 128) (h : refF P t p.length = some n) : Short (flatX n p u) := by
  rcases refF_cases h with ⟨b, hb, (⟨_, rfl⟩ | ⟨_, rfl⟩)⟩ | ⟨_, _, k⟩
  · intro x hx; simp [flatX] at hx
  · intro x hx
    simp only [flatX, List.mem_singleton] at hx
    subst hx; exact hp
  · exact hP _ _ _ _ k
theorem parse_short : ∀ (f : Nat) (t : ByteArray) (n : Nx) (p : List Int) (u : Bool), parseF f t p.length = some n → Short (flatX n p u)
  | 0, _, _, _, _, h => by cases h
  | f + 1, t, n, p, u, h => by
    have ih := parse_short f
    rw [parseF] at h
    split at h
    · cases h
    · rename_i ts hts
      split at h
      · unfold pathedF at h
        split at h
        · cases h
        · split at h
          · cases h
          · rename_i q lf _
            split at h
            · cases h
            · rename_i hd
              split at h
              · unfold leafF at h
                split at h
                · cases h
                · split at h
                  · cases h
                  · injection h with h; subst h
                    intro x hx
                    simp only [flatX, List.mem_singleton] at hx
                    subst hx
                    simp only [List.length_append]; omega
              · unfold extF at h
                split at h
                · cases h
                · rename_i m hr
                  split at h
                  · cases h
                  · injection h with h; subst h
                    simp only [flatX]
                    rw [← List.length_append] at hr
                    exact ref_short ih true (by rw [List.length_append]; omega) hr
      · split at h
        · unfold branchF at h
          split at h
          · cases h
          · rename_i hd
            split at h
            · split at h
              · cases h
              · split at h
                · cases h
                · injection h with h; subst h
                  intro x hx
                  simp only [flatX, List.mem_append, List.mem_flatMap] at hx
                  rcases hx with hx | ⟨i, _, hx⟩
                  · split at hx
                    · cases hx
                    · rw [List.mem_singleton] at hx; subst hx; show p.length ≤ 128; omega
                  · have hl : (p ++ [(i : Int)]).length = p.length + 1 := by simp
                    unfold kidsF at hx
                    split at hx
                    · cases hr : refF (parseF f) (ts.getD i eB) (p.length + 1) with
                      | none => rw [hr] at hx; simp [flatX] at hx
                      | some m =>
                        rw [hr] at hx
                        rw [← hl] at hr
                        exact ref_short ih false (by omega) hr x hx
                    · simp [flatX] at hx
            · cases h
        · cases h
theorem openV_some {H : ByteArray → ByteArray} {t h : ByteArray} {p : List Int} {u least : Bool} {L : List Th} (e : openV H t h p u least = some L) : t.size ≤ 6000 ∧ ∃ n, parseF 33 t p.length = some n ∧ L = flatX n p false := by
  unfold openV at e
  split at e
  · cases e
  · rename_i hc
    split at e
    · cases e
    · rename_i n hn
      split at e
      · cases e
      · injection e with e
        exact ⟨by omega, n, hn, e.symm⟩
theorem openV_short {H : ByteArray → ByteArray} {t h : ByteArray} {p : List Int} {u least : Bool} {L : List Th} (e : openV H t h p u least = some L) : Short L ∧ L.length ≤ 6000 := by
  obtain ⟨h1, n, h2, rfl⟩ := openV_some e
  exact ⟨parse_short 33 t n p false h2, Nat.le_trans (parse_len 33 t _ n p false h2) h1⟩
/-- all that the texts tell along a path, from a root on -/
def refV (H : ByteArray → ByteArray) (P : List Int) (ts : List ByteArray) (root : ByteArray) : Option (List Th × List ByteArray) := match ts with
  | [] => none
  | t :: ts => match openV H t root [] false false with
    | none => none
    | some L => goL H P ts L
theorem refV_goV (H : ByteArray → ByteArray) (P : List Int) (hP : ∀ i ∈ P, 0 ≤ i ∧ i < 16) (ts : List ByteArray) (root : ByteArray) :
    match goV H ts root 0 false false P with
    | none => refV H P ts root = none
    | some (o, ts') => ∃ L', refV H P ts root = some (L', ts') ∧ L'.filter (onP P) = valTh P o := by
  cases ts with
  | nil => rw [goV]; rfl
  | cons t ts =>
    rw [goV]
    unfold refV openV
    simp only [List.length_nil]
    by_cases hc : H t ≠ root ∨ 6000 < t.size
    · rw [if_pos hc, if_pos hc]
    · rw [if_neg hc, if_neg hc]
      cases hp : parseF 33 t 0 with
      | none => rfl
      | some n =>
        simp only
        rw [if_neg (by rintro (⟨h, _⟩ | ⟨h, _⟩) <;> cases h)]
        have hw := (parseF_WF 33 t _ n hp).1
        have hf := filt n P [] false hw hP
        simp only [List.nil_append] at hf
        cases hwk : walkX n P false with
        | none =>
          rw [hwk] at hf
          refine ⟨_, goL_stay (any_of_filter ?_), hf⟩
          rw [hf]; intro y hy; cases hy
        | value v =>
          rw [hwk] at hf
          refine ⟨_, goL_stay (any_of_filter ?_), hf⟩
          rw [hf]
          intro y hy
          simp only [Out.things, List.mem_singleton] at hy
          subst hy; rfl
        | hash h' q u' =>
          rw [hwk] at hf
          obtain ⟨k1, k2⟩ := things_hash_wf n P false u' h' q hw hwk
          have ih := goL_goV H P hP ts _ ⟨q, eB, h', u'⟩ (by rw [hf]; rfl) (by simp only; omega) k2
          simp only at ih
          simp only [Nat.zero_add]
          exact ih
/-- the value that at finds -/
theorem at_of_filter {L : List Th} {P : List Int} {o : Option ByteArray} (h : L.filter (onP P) = valTh P o) : match o with
    | none => L.any (atF P) = false
    | some v => L.any (atF P) = true ∧ L.findIdx (atF P) < L.length ∧ (L.getD (L.findIdx (atF P)) th0).value = v := by
  have hon : ∀ x, atF P x = true → onP P x = true := fun x hx => by
    unfold atF at hx
    rw [Bool.and_eq_true, decide_eq_true_eq, decide_eq_true_eq] at hx
    unfold onP
    rw [if_pos hx.1, hx.2]; simp
  cases o with
  | none =>
    simp only [valTh] at h
    simp only
    rw [List.any_eq_false]
    intro x hx hh
    rw [List.filter_eq_nil_iff] at h
    exact h x hx (hon x hh)
  | some v =>
    simp only [valTh] at h
    have hm : (⟨P, v, eB, false⟩ : Th) ∈ L.filter (onP P) := by rw [h]; exact List.mem_singleton.2 rfl
    have hm2 := (List.mem_filter.1 hm).1
    have ha : L.any (atF P) = true := List.any_eq_true.2 ⟨_, hm2, by unfold atF; simp [eB_size]⟩
    have hl : L.findIdx (atF P) < L.length := List.findIdx_lt_length_of_exists (List.any_eq_true.1 ha)
    refine ⟨ha, hl, ?_⟩
    have h1 : atF P L[L.findIdx (atF P)] = true := List.findIdx_getElem
    have h2 : L[L.findIdx (atF P)] ∈ L.filter (onP P) := List.mem_filter.2 ⟨List.getElem_mem hl, hon _ h1⟩
    rw [h, List.mem_singleton] at h2
    rw [List.getD_eq_getElem?_getD, List.getElem?_eq_getElem hl, Option.getD_some, h2]
end Go.Proofs.YtkegignigkhleaaDoor
