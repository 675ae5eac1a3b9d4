/-
  OUR OWN: VpJ VpK VpL VpN VpO.
-/
import Derived.Test.YtkegignigkhleaaDoorG30
import Derived.Test.YtkegignigkhleaaDoorG18
import Derived.Test.YtkegignigkhleaaDoorG21
namespace Go.Proofs.YtkegignigkhleaaDoor
open Go.RowKit
attribute [local go_sem ↓] Go.wp_at_zero Go.wp_at_succ

theorem tabs_keep {w w' : World} (h : Tabs w) (hb : Below w.heap.size w w') : Tabs w' where
  rcs := fun j hj => (hb.cell (p := _) (World.block_lt_of_cell? w _ (h.rcs j hj))).trans (h.rcs j hj)
  tus := fun j hj => (hb.cell (p := _) (World.block_lt_of_cell? w _ (h.tus j hj))).trans (h.tus j hj)
/-- the tables lie in this world -/
structure Tb (w : World) : Prop where
  tabs : Tabs w
  two : 2 ≤ w.heap.size
theorem Tb.keep {w w' : World} (h : Tb w) (hb : Below w.heap.size w w') : Tb w' := ⟨tabs_keep h.tabs hb, Nat.le_trans h.two hb.size⟩
theorem below_of_grown {w w' : World} (h : w.grownBy w' none) : Below w.heap.size w w' := ⟨h.os, h.tape, h.output, h.size, fun k hk => h.block k hk (fun e => by cases e)⟩
theorem sumB_any (s : ByteArray) (w : World) (hT : Tb w) (hs : s.size ≤ 9223372036854775000) : Calls Tryd.prog 23 #[.string s] w fun e w' => e = .returned (.string (hashOf s)) ∧ Below w.heap.size w w' := by
  refine (sum_any s w hT.tabs hT.two hs).mono ?_
  rintro e w' ⟨rfl, h⟩
  exact ⟨rfl, below_of_grown h⟩
theorem isRight_any (t h : ByteArray) (w : World) (hT : Tb w) (ht : t.size ≤ 9223372036854775000) : Calls Tryd.prog 37 #[.string t, .string h] w fun e w' => e = .returned (.bool ((hashOf t).toList == h.toList)) ∧ Below w.heap.size w w' := by
  have HS := hide (sumB_any t w hT ht)
  clear hT
  go_enter Tryd.func37, Tryd.ntmps37
  go_wp2_with fail
  refine HS.out.mono ?_
  rintro e w1 ⟨rfl, hb⟩
  go_wp2
  go_ret
  exact ⟨rfl, hb⟩
/-- the node that a text is, if it may stand there -/
def nodeF (t h : ByteArray) (d : Nat) (u least : Bool) : Option Nx :=
  if hashOf t ≠ h ∨ 6000 < t.size then none else match parseF 33 t d with
    | none => none
    | some n => if (u = true ∧ n.isBr = false) ∨ (least = true ∧ t.size < 32) then none else some n
def NodePost (o : Option Nx) (w : World) (e : Ending) (w' : World) : Prop := match o with
  | some n => ∃ v, e = .returned (.tuple #[v, .int .i64 0]) ∧ NxAt (fun k => w.heap.size ≤ k) w' n v e0 ∧ Below w.heap.size w w'
  | none => e = .returned (.tuple #[.nilIface, .int .i64 12]) ∧ Below w.heap.size w w'
theorem NodePost.none {o : Option Nx} {w w' : World} {e : Ending} (h : o = .none) (h1 : e = .returned (.tuple #[.nilIface, .int .i64 12])) (h2 : Below w.heap.size w w') : NodePost o w e w' := by rw [h]; exact ⟨h1, h2⟩
theorem NodePost.some {o : Option Nx} {n : Nx} {w w' : World} {e : Ending} (h : o = .some n) (v : Value) (h1 : e = .returned (.tuple #[v, .int .i64 0])) (h2 : NxAt (fun k => w.heap.size ≤ k) w' n v e0) (h3 : Below w.heap.size w w') : NodePost o w e w' := by rw [h]; exact ⟨v, h1, h2, h3⟩
/-- something stands above, or nothing -/
def Over (least : Bool) (av : Value) : Prop := (least = false ∧ av = .nilIface) ∨ (least = true ∧ ∃ t b, av = .iface t (ptr b))

theorem fits_any {u : Bool} {av : Value} (hA : Abv u av) {ok : Nat → Prop} {n : Nx} {v : Value} {g : ByteArray} (w W : World) (hn : NxAt ok W n v g) (h1 : n.isNil = false) (h2 : n.isHash = false) : Calls Tryd.prog 39 #[av, v] w fun e w' => e = .returned (.bool (!u || n.isBr)) ∧ w' = w := by
  cases hA with
  | none => exact fits_free .none v w
  | leaf b => exact fits_free (.leaf b) v w
  | br b => exact fits_free (.br b) v w
  | ext b => exact fits_ext b w W hn h1 h2
theorem eq_str {a b : ByteArray} : (a.toList == b.toList) = decide (a = b) := by
  rw [Bool.eq_iff_iff, beq_iff_eq, decide_eq_true_eq]
  constructor
  · exact toList_inj
  · intro h; rw [h]
/-- the spot's box -/
theorem spot_cells {w W : World} {a b c d : Value} {T : TypeId} (h : Below (w.alloc (.cells #[a, b, c, d] T)).heap.size (w.alloc (.cells #[a, b, c, d] T)) W) : W.cell? ⟨w.heap.size, 0, none⟩ = some a ∧ W.cell? ⟨w.heap.size, 1, none⟩ = some b ∧ W.cell? ⟨w.heap.size, 2, none⟩ = some c ∧ W.cell? ⟨w.heap.size, 3, none⟩ = some d ∧ Below w.heap.size w W := by
  have h1 : W.heap[w.heap.size]? = some (.cells #[a, b, c, d] T (0, 0)) := (h.block w.heap.size (by simp)).trans (heap_alloc_new w _)
  exact ⟨cell_of_row _ _ 0 _ _ (0, 0) h1, cell_of_row _ _ 1 _ _ (0, 0) h1, cell_of_row _ _ 2 _ _ (0, 0) h1, cell_of_row _ _ 3 _ _ (0, 0) h1, (below_alloc w _).trans (h.mono (by simp))⟩
set_option maxHeartbeats 2000000 in
set_option maxRecDepth 20000 in
theorem nodeOf_long (t h : ByteArray) (d : Nat) (u least : Bool) (av : Value) (w : World) (hav : isNd av) (hl : 6000 < t.size) (hm : t.size ≤ 9223372036854775000) :
    Calls Tryd.prog 26 #[.agg #[.nilIface, .string h, av, .int .i64 (d : Int)], .string t] w fun e w' => NodePost (nodeF t h d u least) w e w' := by
  have HP : Hid (nodeF t h d u least = none) := by show _ = _; unfold nodeF; rw [if_pos (.inr hl)]
  have i1 : (6000 : Int) < (t.size : Int) := by omega
  clear hl
  rcases hav with rfl | ⟨t2, b2, rfl⟩
  · go_enter Tryd.func26, Tryd.ntmps26
    go_wp2
    go_ret2
    exact NodePost.none HP.out rfl (below_alloc _ _)
  · unfold ptr at *
    go_enter Tryd.func26, Tryd.ntmps26
    go_wp2
    go_ret2
    exact NodePost.none HP.out rfl (below_alloc _ _)
set_option maxHeartbeats 2000000 in
set_option maxRecDepth 20000 in
theorem nodeOf_wrong (t h : ByteArray) (d : Nat) (u least : Bool) (av : Value) (w : World) (hT : Tb w) (hav : isNd av) (hl : t.size ≤ 6000) (hh : hashOf t ≠ h) :
    Calls Tryd.prog 26 #[.agg #[.nilIface, .string h, av, .int .i64 (d : Int)], .string t] w fun e w' => NodePost (nodeF t h d u least) w e w' := by
  have HP : Hid (nodeF t h d u least = none) := by show _ = _; unfold nodeF; rw [if_pos (.inl hh)]
  have i1 : (t.size : Int) ≤ 6000 := by omega
  have HS : Hid (∀ o, Calls Tryd.prog 37 #[.string t, .string h] (w.alloc o) fun e w' => e = .returned (.bool false) ∧ Below (w.alloc o).heap.size (w.alloc o) w') := fun o => by
    have := isRight_any t h (w.alloc o) (hT.keep (below_alloc _ _)) (by omega)
    rwa [eq_str, decide_eq_false hh] at this
  clear hh hl hT
  rcases hav with rfl | ⟨t2, b2, rfl⟩
  · go_enter Tryd.func26, Tryd.ntmps26
    go_wp2_with fail
    refine (HS.out _).mono ?_
    rintro e w1 ⟨rfl, hb⟩
    obtain ⟨_, _, _, _, hbw⟩ := spot_cells hb
    clear hb
    go_wp2
    go_ret2
    exact NodePost.none HP.out rfl hbw
  · unfold ptr at *
    go_enter Tryd.func26, Tryd.ntmps26
    go_wp2_with fail
    refine (HS.out _).mono ?_
    rintro e w1 ⟨rfl, hb⟩
    obtain ⟨_, _, _, _, hbw⟩ := spot_cells hb
    clear hb
    go_wp2
    go_ret2
    exact NodePost.none HP.out rfl hbw
set_option maxHeartbeats 4000000 in
set_option maxRecDepth 20000 in
theorem nodeOf_right (t h : ByteArray) (d : Nat) (u least : Bool) (av : Value) (w : World) (hT : Tb w) (hA : Abv u av) (hO : Over least av) (hl : t.size ≤ 6000) (hd : d ≤ 300) (hh : hashOf t = h) :
    Calls Tryd.prog 26 #[.agg #[.nilIface, .string h, av, .int .i64 (d : Int)], .string t] w fun e w' => NodePost (nodeF t h d u least) w e w' := by
  have HP : Hid (nodeF t h d u least = match parseF 33 t d with | none => none | some n => if (u = true ∧ n.isBr = false) ∨ (least = true ∧ t.size < 32) then none else some n) := by
    show _ = _; unfold nodeF; rw [if_neg (fun e => by rcases e with e | e; { exact e hh }; { omega })]
  have i1 : (t.size : Int) ≤ 6000 := by omega
  have HS : Hid (∀ o, Calls Tryd.prog 37 #[.string t, .string h] (w.alloc o) fun e w' => e = .returned (.bool true) ∧ Below (w.alloc o).heap.size (w.alloc o) w') := fun o => by
    have := isRight_any t h (w.alloc o) (hT.keep (below_alloc _ _)) (by omega)
    rwa [eq_str, decide_eq_true hh] at this
  have HR := hide (fun W => parse_any t d W hl hd)
  have HF := hide (fun (n : Nx) (v : Value) (g : ByteArray) (W W' : World) (hn : NxAt (fun k => W.heap.size ≤ k) W' n v g) (h1 : n.isNil = false) (h2 : n.isHash = false) => fits_any hA W' W' hn h1 h2)
  have HWF := hide (fun n hn => (parseF_WF 33 t d n hn).2)
  have HZ : Hid (decide (t.size < 32) = decide ((t.size : Int) < 32)) := by show _ = _; rw [Bool.eq_iff_iff]; simp only [decide_eq_true_eq]; omega
  clear hh hl hT hA
  rcases hO with ⟨rfl, rfl⟩ | ⟨rfl, t2, b2, rfl⟩
  · go_enter Tryd.func26, Tryd.ntmps26
    go_wp2_with fail
    refine (HS.out _).mono ?_
    rintro e w1 ⟨rfl, hb⟩
    obtain ⟨y0, y1, y2, y3, hbw⟩ := spot_cells hb
    have HB1 := hide (And.intro hb hbw)
    clear hb hbw
    go_wp2_with fail
    refine (HR.out _).mono ?_
    intro e w2 hpp
    have HC2 := hide (fun (hb2 : Below w1.heap.size w1 w2) => spot_cells (HB1.out.1.trans (hb2.mono HB1.out.1.size)))
    cases ho : parseF 33 t d with
    | none =>
      rw [ho] at hpp HP
      obtain ⟨v, hv, rfl, hb2⟩ := hpp
      have HB2 := hide (HC2.out hb2).2.2.2.2
      clear hb2
      rcases hv with rfl | ⟨t3, b3, rfl⟩
      · go_wp2
        go_ret2
        exact NodePost.none HP.out rfl HB2.out
      · unfold ptr at *
        go_wp2
        go_ret2
        exact NodePost.none HP.out rfl HB2.out
    | some n =>
      rw [ho] at hpp HP
      obtain ⟨v, rfl, hn, hb2⟩ := hpp
      have hnn := HWF.out n ho
      obtain ⟨x0, x1, x2, x3, hbw2⟩ := HC2.out hb2
      have HB2 := hide hbw2
      have HN := hide (NxAt.mono (fun k hk => Nat.le_trans HB1.out.2.size hk) _ _ _ hn)
      have HFF := hide (HF.out n v e0 w1 w2 hn hnn.1 hnn.2)
      obtain ⟨_, t3, b3, rfl⟩ := hn.some hnn.1 hnn.2
      clear hb2 hbw2 hn ho hnn
      unfold ptr at *
      by_cases hc : u = true ∧ n.isBr = false
      · have HP2 : Hid (nodeF t h d u false = none) := by show _ = _; rw [HP.out]; simp only; rw [if_pos (.inl hc)]
        rw [hc.1, hc.2] at HFF
        clear hc
        go_wp2_with fail
        refine HFF.out.mono ?_
        rintro e w3 ⟨rfl, rfl⟩
        go_wp2
        go_ret2
        exact NodePost.none HP2.out rfl HB2.out
      · have HP2 : Hid (nodeF t h d u false = some n) := by
          show _ = _; rw [HP.out]; simp only
          rw [if_neg (by rintro (h1 | ⟨h1, _⟩); { exact hc h1 }; { cases h1 })]
        have hf : (!u || n.isBr) = true := by
          cases u with
          | false => rfl
          | true =>
            cases hb : n.isBr with
            | true => rfl
            | false => exact absurd ⟨rfl, hb⟩ hc
        rw [hf] at HFF
        clear hc hf
        go_wp2_with fail
        refine HFF.out.mono ?_
        rintro e w3 ⟨rfl, rfl⟩
        go_wp2
        go_ret2
        exact NodePost.some HP2.out _ rfl HN.out HB2.out
  · unfold ptr at *
    go_enter Tryd.func26, Tryd.ntmps26
    go_wp2_with fail
    refine (HS.out _).mono ?_
    rintro e w1 ⟨rfl, hb⟩
    obtain ⟨y0, y1, y2, y3, hbw⟩ := spot_cells hb
    have HB1 := hide (And.intro hb hbw)
    clear hb hbw
    go_wp2_with fail
    refine (HR.out _).mono ?_
    intro e w2 hpp
    have HC2 := hide (fun (hb2 : Below w1.heap.size w1 w2) => spot_cells (HB1.out.1.trans (hb2.mono HB1.out.1.size)))
    cases ho : parseF 33 t d with
    | none =>
      rw [ho] at hpp HP
      obtain ⟨v, hv, rfl, hb2⟩ := hpp
      have HB2 := hide (HC2.out hb2).2.2.2.2
      clear hb2
      rcases hv with rfl | ⟨t3, b3, rfl⟩
      · go_wp2
        go_ret2
        exact NodePost.none HP.out rfl HB2.out
      · unfold ptr at *
        go_wp2
        go_ret2
        exact NodePost.none HP.out rfl HB2.out
    | some n =>
      rw [ho] at hpp HP
      obtain ⟨v, rfl, hn, hb2⟩ := hpp
      have hnn := HWF.out n ho
      obtain ⟨x0, x1, x2, x3, hbw2⟩ := HC2.out hb2
      have HB2 := hide hbw2
      have HN := hide (NxAt.mono (fun k hk => Nat.le_trans HB1.out.2.size hk) _ _ _ hn)
      have HFF := hide (HF.out n v e0 w1 w2 hn hnn.1 hnn.2)
      obtain ⟨_, t3, b3, rfl⟩ := hn.some hnn.1 hnn.2
      clear hb2 hbw2 hn ho hnn
      unfold ptr at *
      by_cases hc : u = true ∧ n.isBr = false
      · have HP2 : Hid (nodeF t h d u true = none) := by show _ = _; rw [HP.out]; simp only; rw [if_pos (.inl hc)]
        rw [hc.1, hc.2] at HFF
        clear hc
        go_wp2_with fail
        refine HFF.out.mono ?_
        rintro e w3 ⟨rfl, rfl⟩
        go_wp2
        go_ret2
        exact NodePost.none HP2.out rfl HB2.out
      · have hf : (!u || n.isBr) = true := by
          cases u with
          | false => rfl
          | true =>
            cases hb : n.isBr with
            | true => rfl
            | false => exact absurd ⟨rfl, hb⟩ hc
        rw [hf] at HFF
        by_cases h32 : t.size < 32
        · have HP2 : Hid (nodeF t h d u true = none) := by show _ = _; rw [HP.out]; simp only; rw [if_pos (.inr ⟨trivial, h32⟩)]
          have j1 : (t.size : Int) < 32 := by omega
          clear hc hf h32
          go_wp2_with fail
          refine HFF.out.mono ?_
          rintro e w3 ⟨rfl, rfl⟩
          go_wp2
          go_ret2
          exact NodePost.none HP2.out rfl HB2.out
        · have HP2 : Hid (nodeF t h d u true = some n) := by
            show _ = _; rw [HP.out]; simp only
            rw [if_neg (by rintro (h1 | ⟨_, h1⟩); { exact hc h1 }; { exact h32 h1 })]
          have j1 : (32 : Int) ≤ (t.size : Int) := by omega
          clear hc hf h32
          go_wp2_with fail
          refine HFF.out.mono ?_
          rintro e w3 ⟨rfl, rfl⟩
          go_wp2
          go_ret2
          exact NodePost.some HP2.out _ rfl HN.out HB2.out
theorem nodeOf_any (t h : ByteArray) (d : Nat) (u least : Bool) (av : Value) (w : World) (hT : Tb w) (hA : Abv u av) (hO : Over least av) (hm : t.size ≤ 9223372036854775000) (hd : d ≤ 300) :
    Calls Tryd.prog 26 #[.agg #[.nilIface, .string h, av, .int .i64 (d : Int)], .string t] w fun e w' => NodePost (nodeF t h d u least) w e w' := by
  have hav : isNd av := by
    rcases hO with ⟨_, rfl⟩ | ⟨_, t2, b2, rfl⟩
    · exact .inl rfl
    · exact .inr ⟨t2, b2, rfl⟩
  by_cases hl : 6000 < t.size
  · exact nodeOf_long t h d u least av w hav hl hm
  · by_cases hh : hashOf t = h
    · exact nodeOf_right t h d u least av w hT hA hO (by omega) hd hh
    · exact nodeOf_wrong t h d u least av w hT hav (by omega) hh
end Go.Proofs.YtkegignigkhleaaDoor
namespace Go.Proofs.YtkegignigkhleaaDoor
open Go.RowKit
attribute [local go_sem ↓] Go.wp_at_zero Go.wp_at_succ

/-- the texts whose turn has not come, in the box U -/
structure Un (w : World) (U : Nat) (ts : List ByteArray) : Prop where
  held : ∃ ao cap, w.heap[U]? = some (.cells #[.slice ao ts.length cap] 51 (0, 0)) ∧ ts.length ≤ cap ∧ ∀ i, i < ts.length → ∃ g o, ao = some ⟨g, o, none⟩ ∧ g < U ∧ w.cell? ⟨g, o + i, none⟩ = some (.string (ts.getD i eB))
theorem Un.lt {w : World} {U : Nat} {ts : List ByteArray} (h : Un w U ts) : U < w.heap.size := by
  obtain ⟨ao, cap, h1, _⟩ := h
  exact (Array.getElem?_eq_some_iff.1 h1).1
theorem Un.keep {w w' : World} {U : Nat} {ts : List ByteArray} (h : Un w U ts) (hb : Below w.heap.size w w') : Un w' U ts := by
  have hl := h.lt
  obtain ⟨ao, cap, h1, h2, h3⟩ := h
  refine ⟨ao, cap, (hb.block U hl).trans h1, h2, fun i hi => ?_⟩
  obtain ⟨g, o, e, hne, hc⟩ := h3 i hi
  exact ⟨g, o, e, hne, (hb.cell (p := ⟨g, o + i, none⟩) (World.block_lt_of_cell? w _ hc)).trans hc⟩
/-- nothing but the box U has turned -/
theorem grown_below {w w' : World} {U : Nat} (h : Below w.heap.size w w') : w.grownBy w' (some U) := ⟨h.os, h.tape, h.output, h.size, fun k hk _ => h.block k hk⟩
theorem grown_then {w w1 w2 : World} {U : Nat} (h : w.grownBy w1 (some U)) (h2 : Below w1.heap.size w1 w2) : w.grownBy w2 (some U) := ⟨h2.os.trans h.os, h2.tape.trans h.tape, h2.output.trans h.output, Nat.le_trans h.size h2.size, fun k hk hne => (h2.block k (Nat.lt_of_lt_of_le hk h.size)).trans (h.block k hk hne)⟩
theorem grown_both {w w1 w2 : World} {U : Nat} (h : w.grownBy w1 (some U)) (h2 : w1.grownBy w2 (some U)) : w.grownBy w2 (some U) := ⟨h2.os.trans h.os, h2.tape.trans h.tape, h2.output.trans h.output, Nat.le_trans h.size h2.size, fun k hk hne => (h2.block k (Nat.lt_of_lt_of_le hk h.size) hne).trans (h.block k hk hne)⟩
theorem grown_one (w : World) (U j : Nat) (u : Value) : w.grownBy (w.setCell ⟨U, j, none⟩ u) (some U) :=
  ⟨rfl, rfl, rfl, by simp [World.setCell], fun k _ hne => Below.heap_setCell _ _ _ _ (fun e => hne (by have e : k = U := e; rw [e]))⟩
theorem Tb.grown {w w' : World} {U : Nat} (h : Tb w) (hg : w.grownBy w' (some U)) (hU : 2 ≤ U) : Tb w' := ⟨h.tabs.grown hg hU, Nat.le_trans h.two hg.size⟩

set_option maxHeartbeats 2000000 in
set_option maxRecDepth 20000 in
theorem readU_node (U : Nat) (t : TypeId) (b : Nat) (h : ByteArray) (av : Value) (dp : Int) (w : World) :
    Calls Tryd.prog 15 #[ptr U, .agg #[.iface t (ptr b), .string h, av, .int .i64 dp]] w fun e w' => e = .returned (.tuple #[.iface t (ptr b), .int .i64 0]) ∧ Below w.heap.size w w' := by
  unfold ptr
  go_enter Tryd.func15, Tryd.ntmps15
  go_wp2
  go_ret2
  exact ⟨rfl, below_alloc _ _⟩
set_option maxHeartbeats 2000000 in
set_option maxRecDepth 20000 in
theorem readU_none (U : Nat) (h : ByteArray) (av : Value) (dp : Int) (w : World) (hav : isNd av) (hu : Un w U []) :
    Calls Tryd.prog 15 #[ptr U, .agg #[.nilIface, .string h, av, .int .i64 dp]] w fun e w' => e = .returned (.tuple #[.nilIface, .int .i64 11]) ∧ Below w.heap.size w w' := by
  have hl := hu.lt
  obtain ⟨ao, cap, h1, _⟩ := hu
  have c0 : ∀ o, (w.alloc o).cell? ⟨U, 0, none⟩ = some (.slice ao 0 cap) := fun o => ((below_alloc w o).cell (p := ⟨U, 0, none⟩) hl).trans (cell_of_row _ _ 0 _ _ (0, 0) h1)
  clear h1
  unfold ptr
  rcases hav with rfl | ⟨t2, b2, rfl⟩
  · go_enter Tryd.func15, Tryd.ntmps15
    go_wp2
    go_ret2
    exact ⟨rfl, below_alloc _ _⟩
  · unfold ptr
    go_enter Tryd.func15, Tryd.ntmps15
    go_wp2
    go_ret2
    exact ⟨rfl, below_alloc _ _⟩
/-- what reading a hash answers -/
def HashPost (U : Nat) (o : Option Nx) (ts : List ByteArray) (w : World) (e : Ending) (w' : World) : Prop :=
  w.grownBy w' (some U) ∧ Un w' U ts ∧ match o with
    | some n => ∃ v, e = .returned (.tuple #[v, .int .i64 0]) ∧ NxAt (fun k => w.heap.size ≤ k) w' n v e0
    | none => e = .returned (.tuple #[.nilIface, .int .i64 12])
set_option maxHeartbeats 4000000 in
set_option maxRecDepth 20000 in
theorem readU_hash (U : Nat) (h t : ByteArray) (ts : List ByteArray) (av : Value) (d : Nat) (u least : Bool) (w : World) (hT : Tb w) (hU : 2 ≤ U) (hA : Abv u av) (hO : Over least av) (hu : Un w U (t :: ts)) (hm : t.size ≤ 9223372036854775000) (hd : d ≤ 300) :
    Calls Tryd.prog 15 #[ptr U, .agg #[.nilIface, .string h, av, .int .i64 (d : Int)]] w fun e w' => HashPost U (nodeF t h d u least) ts w e w' := by
  have hl := hu.lt
  obtain ⟨ao, cap, h1, h2, h3⟩ := hu
  obtain ⟨g, o, rfl, hne, hc0⟩ := h3 0 (by simp)
  simp only [List.getD_cons_zero, Nat.add_zero] at hc0
  have hgl : g < w.heap.size := World.block_lt_of_cell? w _ hc0
  have c0 : ∀ o', (w.alloc o').cell? ⟨U, 0, none⟩ = some (.slice (some ⟨g, o, none⟩) (ts.length + 1) cap) := fun o' => ((below_alloc w o').cell (p := ⟨U, 0, none⟩) hl).trans (cell_of_row _ _ 0 _ _ (0, 0) h1)
  have c1 : ∀ o', (w.alloc o').cell? ⟨g, o, none⟩ = some (.string t) := fun o' => ((below_alloc w o').cell (p := ⟨g, o, none⟩) hgl).trans hc0
  have hb1 : ∀ o', (w.alloc o').heap[U]? = some (.cells #[.slice (some ⟨g, o, none⟩) (ts.length + 1) cap] 51 (0, 0)) := fun o' => (Below.heap_alloc _ _ _ hl).trans h1
  have z0 : ∀ o', (w.alloc o').frozen? ⟨U, 0, none⟩ = false := fun o' => frozen_of_row _ _ 0 _ _ (hb1 o')
  have HN : Hid (∀ W, Tb W → Calls Tryd.prog 26 #[.agg #[.nilIface, .string h, av, .int .i64 (d : Int)], .string t] W fun e w' => NodePost (nodeF t h d u least) W e w') := fun W hW => nodeOf_any t h d u least av W hW hA hO hm hd
  have p1 : (ts.length : Int) + 1 ≤ (cap : Int) := by simp at h2; omega
  have p2 : (((ts.length : Int) + 1) == 0) = false := beq_false_of_ne (by omega)
  have p3 : (1 : Int) ≤ (ts.length : Int) + 1 := by omega
  have p4 : (0 : Int) < (ts.length : Int) + 1 := by omega
  have hUn : ∀ (W : World) (o2 c2 : Nat), (∀ k, k < w.heap.size → k ≠ U → W.heap[k]? = w.heap[k]?) → W.heap[U]? = some (.cells #[.slice (some ⟨g, o2, none⟩) ts.length c2] 51 (0, 0)) → (ts = [] ∨ o2 = o + 1) → ts.length ≤ c2 → Un W U ts := fun W o2 c2 hk hW ho hc2 => by
    refine ⟨some ⟨g, o2, none⟩, c2, hW, hc2, fun i hi => ⟨g, o2, rfl, hne, ?_⟩⟩
    rcases ho with rfl | rfl
    · simp at hi
    · obtain ⟨g', o', e, _, hc'⟩ := h3 (i + 1) (by simpa using hi)
      obtain ⟨rfl, rfl⟩ : g = g' ∧ o = o' := by simpa using e
      rw [List.getD_cons_succ] at hc'
      rw [show o + 1 + i = o + (i + 1) from by omega]
      exact (World.cell?_of_block (w := w) (w' := W) (a := ⟨g, o + (i + 1), none⟩) (hk g hgl (Nat.ne_of_lt hne))).trans hc'
  have HW0 : Hid (∀ (o2 c2 : Nat) (ob : Obj), (ts = [] ∨ o2 = o + 1) → ts.length ≤ c2 → w.grownBy ((w.setCell ⟨U, 0, none⟩ (.slice (some ⟨g, o2, none⟩) ts.length c2)).alloc ob) (some U) ∧ Un ((w.setCell ⟨U, 0, none⟩ (.slice (some ⟨g, o2, none⟩) ts.length c2)).alloc ob) U ts ∧ Tb ((w.setCell ⟨U, 0, none⟩ (.slice (some ⟨g, o2, none⟩) ts.length c2)).alloc ob)) := fun o2 c2 ob ho hc2 => by
    have g1 := grown_one w U 0 (.slice (some ⟨g, o2, none⟩) ts.length c2)
    have g2 := grown_then g1 (below_alloc _ ob)
    refine ⟨g2, hUn _ o2 c2 (fun k hk hne => g2.block k hk (fun e => hne (by injection e))) ?_ ho hc2, hT.grown g2 hU⟩
    have h4 := heap_setCell_same w U 0 _ 51 (.slice (some ⟨g, o2, none⟩) ts.length c2) h1
    exact (Below.heap_alloc _ _ _ (Array.getElem?_eq_some_iff.1 h4).1).trans h4
  have HPost : Hid (∀ (W0 : World) (e : Ending) (w' : World), w.grownBy W0 (some U) → Un W0 U ts → NodePost (nodeF t h d u least) W0 e w' → HashPost U (nodeF t h d u least) ts w e w') := fun W0 e w' hg hun hnp => by
    unfold NodePost at hnp
    unfold HashPost
    cases ho : nodeF t h d u least with
    | none =>
      rw [ho] at hnp
      obtain ⟨rfl, hb⟩ := hnp
      exact ⟨grown_then hg hb, hun.keep hb, rfl⟩
    | some n =>
      rw [ho] at hnp
      obtain ⟨v, rfl, hn, hb⟩ := hnp
      exact ⟨grown_then hg hb, hun.keep hb, v, rfl, NxAt.mono (fun k hk => Nat.le_trans hg.size hk) _ _ _ hn⟩
  have HForm : Hid (∀ (W0 : World) (e : Ending) (w' : World), NodePost (nodeF t h d u least) W0 e w' → ∃ v er, isNd v ∧ e = .returned (.tuple #[v, .int .i64 er])) := fun W0 e w' hnp => by
    unfold NodePost at hnp
    cases ho : nodeF t h d u least with
    | none => rw [ho] at hnp; exact ⟨.nilIface, 12, .inl rfl, hnp.1⟩
    | some n => rw [ho] at hnp; obtain ⟨v, h1, h2, _⟩ := hnp; exact ⟨v, 0, h2.isNd, h1⟩
  have q1 : ¬ g = w.heap.size := by omega
  have q2 : ¬ U = w.heap.size := by omega
  have q3 : ¬ w.heap.size = U := by omega
  have hav : isNd av := by
    rcases hO with ⟨_, rfl⟩ | ⟨_, t2, b2, rfl⟩
    · exact .inl rfl
    · exact .inr ⟨t2, b2, rfl⟩
  clear hUn h1 h2 h3 hc0 hb1 hT hA hO
  unfold ptr
  by_cases hcap : cap = 1
  · subst hcap
    obtain rfl : ts = [] := List.length_eq_zero_iff.1 (by omega)
    simp only [List.length_nil] at *
    rcases hav with rfl | ⟨t2, b2, rfl⟩
    · go_enter Tryd.func15, Tryd.ntmps15
      go_wp2_with fail
      have hw0 := HW0.out o 0 (.cells #[.nilIface, .string h, .nilIface, .int .i64 (d : Int)] 62) (.inl (by first | rfl | trivial)) (Nat.le_refl _)
      refine (HN.out _ hw0.2.2).mono ?_
      intro e w' hnp
      have HQ := hide (HPost.out _ e w' hw0.1 hw0.2.1 hnp)
      obtain ⟨v, er, _, rfl⟩ := HForm.out _ e w' hnp
      clear hw0 hnp
      go_wp2
      go_ret2
      exact HQ.out
    · unfold ptr at *
      go_enter Tryd.func15, Tryd.ntmps15
      go_wp2_with fail
      have hw0 := HW0.out o 0 (.cells #[.nilIface, .string h, .iface t2 (.pointer (some ⟨b2, 0, none⟩)), .int .i64 (d : Int)] 62) (.inl (by first | rfl | trivial)) (Nat.le_refl _)
      refine (HN.out _ hw0.2.2).mono ?_
      intro e w' hnp
      have HQ := hide (HPost.out _ e w' hw0.1 hw0.2.1 hnp)
      obtain ⟨v, er, _, rfl⟩ := HForm.out _ e w' hnp
      clear hw0 hnp
      go_wp2
      go_ret2
      exact HQ.out
  · have hc1 : ¬ (cap : Int) = 1 := by omega
    rcases hav with rfl | ⟨t2, b2, rfl⟩
    · go_enter Tryd.func15, Tryd.ntmps15
      go_wp2_with fail
      have hw0 := HW0.out (o + 1) (cap - 1) (.cells #[.nilIface, .string h, .nilIface, .int .i64 (d : Int)] 62) (.inr rfl) (by omega)
      refine (HN.out _ hw0.2.2).mono ?_
      intro e w' hnp
      have HQ := hide (HPost.out _ e w' hw0.1 hw0.2.1 hnp)
      obtain ⟨v, er, _, rfl⟩ := HForm.out _ e w' hnp
      clear hw0 hnp
      go_wp2
      go_ret2
      exact HQ.out
    · unfold ptr at *
      go_enter Tryd.func15, Tryd.ntmps15
      go_wp2_with fail
      have hw0 := HW0.out (o + 1) (cap - 1) (.cells #[.nilIface, .string h, .iface t2 (.pointer (some ⟨b2, 0, none⟩)), .int .i64 (d : Int)] 62) (.inr rfl) (by omega)
      refine (HN.out _ hw0.2.2).mono ?_
      intro e w' hnp
      have HQ := hide (HPost.out _ e w' hw0.1 hw0.2.1 hnp)
      obtain ⟨v, er, _, rfl⟩ := HForm.out _ e w' hnp
      clear hw0 hnp
      go_wp2
      go_ret2
      exact HQ.out
end Go.Proofs.YtkegignigkhleaaDoor
namespace Go.Proofs.YtkegignigkhleaaDoor
open Go.RowKit
attribute [local go_sem ↓] Go.wp_at_zero Go.wp_at_succ

/-- the code of the empty text -/
def code0 : ByteArray := strOfNums [128]
/-- the root of the empty map -/
def root0 : ByteArray := hashOf code0
set_option maxHeartbeats 1000000 in
set_option maxRecDepth 20000 in
theorem withHead_nil (w : World) : Calls Tryd.prog 36 #[.int .i64 128, .string ⟨#[]⟩] w fun e w' => e = .returned (.string code0) ∧ Below w.heap.size w w' := by
  have hcv := conv_new w 128
  go_enter Tryd.func36, Tryd.ntmps36
  have HE : Hid (strOfNums [128] ++ (⟨#[]⟩ : ByteArray) = code0) := by show _ = _; kernel_rfl
  have hz : (strOfNums [128]).size = 1 := rfl
  go_wp2
  go_ret
  exact ⟨by rw [← HE.out]; rfl, below_alloc _ _⟩
set_option maxHeartbeats 1000000 in
set_option maxRecDepth 20000 in
theorem textCode_nil (w : World) : Calls Tryd.prog 24 #[.string ⟨#[]⟩] w fun e w' => e = .returned (.string code0) ∧ Below w.heap.size w w' := by
  have HO : Hid (∀ W, Calls Tryd.prog 35 #[.string ⟨#[]⟩] W fun e w' => e = .returned (.bool (ownC ⟨#[]⟩)) ∧ w' = W) := fun W => isOwnCode_any ⟨#[]⟩ W (by decide)
  have ho : ownC ⟨#[]⟩ = false := rfl
  rw [ho] at HO
  have HW := hide (fun W => withHead_nil W)
  go_enter Tryd.func24, Tryd.ntmps24
  go_wp2_with fail
  refine (HO.out _).mono ?_
  rintro e w1 ⟨rfl, rfl⟩
  go_wp2_with fail
  refine (HW.out _).mono ?_
  rintro e w2 ⟨rfl, hb⟩
  go_wp2
  go_ret
  exact ⟨rfl, hb⟩
theorem rootOfNothing_any (w : World) (hT : Tb w) : Calls Tryd.prog 13 #[] w fun e w' => e = .returned (.string root0) ∧ Below w.heap.size w w' := by
  have HT := hide hT
  have HC := hide (textCode_nil w)
  clear hT
  go_enter Tryd.func13, Tryd.ntmps13
  go_wp2_with fail
  refine HC.out.mono ?_
  rintro e w1 ⟨rfl, hb⟩
  have HB := hide hb
  have HS := hide (sumB_any code0 w1 (HT.out.keep hb) (by decide))
  clear hb
  go_wp2_with fail
  refine HS.out.mono ?_
  rintro e w2 ⟨rfl, hb2⟩
  go_wp2
  go_ret
  exact ⟨rfl, HB.out.trans (hb2.mono HB.out.size)⟩
end Go.Proofs.YtkegignigkhleaaDoor
namespace Go.Proofs.YtkegignigkhleaaDoor
open Go.RowKit

def outR (o : Out) (p : List Int) (d : Nat) (ts : List ByteArray) : Option (Option ByteArray × List ByteArray) := match o with
  | .none => some (none, ts)
  | .value v => some (some v, ts)
  | .hash h q u' => goV hashOf ts h (d + q.length) u' true (p.drop q.length)
/-- what is told from a reference on -/
def stepR (n : Nx) (p : List Int) (d : Nat) (u least : Bool) (ts : List ByteArray) : Option (Option ByteArray × List ByteArray) := match n with
  | .hash h => goV hashOf ts h d u least p
  | m => outR (walkX m p u) p d ts
theorem stepR_node {n : Nx} (h : n.isHash = false) (p : List Int) (d : Nat) (u least : Bool) (ts : List ByteArray) : stepR n p d u least ts = outR (walkX n p u) p d ts := by
  cases n with
  | hash g => cases h
  | nil => rfl
  | leaf _ _ => rfl
  | ext _ _ => rfl
  | br _ _ => rfl
theorem walkX_u {n : Nx} (h : n.isHash = false) (p : List Int) (u u' : Bool) : walkX n p u = walkX n p u' := by
  cases n with
  | hash g => cases h
  | nil => rfl
  | leaf _ _ => rfl
  | ext _ _ => rfl
  | br _ _ => simp only [walkX]
theorem stepR_u {n : Nx} (h : n.isHash = false) (p : List Int) (d : Nat) (u u' l l' : Bool) (ts : List ByteArray) : stepR n p d u l ts = stepR n p d u' l' ts := by
  rw [stepR_node h, stepR_node h, walkX_u h p u u']
theorem step_open {t h : ByteArray} {d : Nat} {u least : Bool} {m : Nx} (hn : nodeF t h d u least = some m) (p : List Int) (ts : List ByteArray) (u' l' : Bool) : goV hashOf (t :: ts) h d u least p = stepR m p d u' l' ts := by
  unfold nodeF at hn
  rw [goV]
  split at hn
  · cases hn
  · rename_i hc
    rw [if_neg hc]
    split at hn
    · cases hn
    · rename_i n hp
      rw [hp]
      simp only
      split at hn
      · cases hn
      · rename_i hd
        injection hn with hn
        subst hn
        have hh := (parseF_WF 33 t d n hp).2.2
        rw [if_neg hd, stepR_node hh, walkX_u hh p u' false]
        rfl
theorem step_bad {t h : ByteArray} {d : Nat} {u least : Bool} (hn : nodeF t h d u least = none) (p : List Int) (ts : List ByteArray) : goV hashOf (t :: ts) h d u least p = none := by
  unfold nodeF at hn
  rw [goV]
  split at hn
  · rename_i hc; rw [if_pos hc]
  · rename_i hc
    rw [if_neg hc]
    split at hn
    · rename_i hp; rw [hp]
    · rename_i n hp
      rw [hp]
      simp only
      split at hn
      · rename_i hd; rw [if_pos hd]
      · cases hn
theorem outR_pre (o : Out) (q p : List Int) (d : Nat) (ts : List ByteArray) : outR (o.pre q) p d ts = outR o (p.drop q.length) (d + q.length) ts := by
  cases o with
  | none => rfl
  | value v => rfl
  | hash h q' u' => simp [Out.pre, outR, Nat.add_assoc]
theorem stepR_out (n : Nx) (p : List Int) (d : Nat) (u : Bool) (ts : List ByteArray) : stepR n p d u true ts = outR (walkX n p u) p d ts := by
  cases n with
  | hash g => simp [stepR, walkX, outR]
  | nil => rfl
  | leaf _ _ => rfl
  | ext _ _ => rfl
  | br _ _ => rfl
theorem step_ext {q : List Int} {m : Nx} {p : List Int} (h : q.isPrefixOf p = true) (d : Nat) (u l : Bool) (ts : List ByteArray) : stepR (.ext q m) p d u l ts = stepR m (p.drop q.length) (d + q.length) true true ts := by
  rw [stepR_node rfl, stepR_out]
  simp only [walkX]
  rw [if_pos h, outR_pre]
theorem step_off {q : List Int} {m : Nx} {p : List Int} (h : q.isPrefixOf p = false) (d : Nat) (u l : Bool) (ts : List ByteArray) : stepR (.ext q m) p d u l ts = some (none, ts) := by
  rw [stepR_node rfl]
  simp only [walkX]
  rw [h]; rfl
theorem step_br (c : Nat → Nx) (v : ByteArray) (i : Int) (p : List Int) (d : Nat) (u l : Bool) (ts : List ByteArray) : stepR (.br c v) (i :: p) d u l ts = stepR (c i.toNat) p (d + 1) false true ts := by
  rw [stepR_node rfl, stepR_out]
  simp only [walkX]
  rw [outR_pre]; rfl
theorem step_val (c : Nat → Nx) (v : ByteArray) (d : Nat) (u l : Bool) (ts : List ByteArray) : stepR (.br c v) [] d u l ts = if v.size = 0 then some (none, ts) else some (some v, ts) := by
  rw [stepR_node rfl]
  simp only [walkX]
  split <;> rfl
theorem step_leaf (q : List Int) (v : ByteArray) (p : List Int) (d : Nat) (u l : Bool) (ts : List ByteArray) : stepR (.leaf q v) p d u l ts = if q = p then some (some v, ts) else some (none, ts) := by
  rw [stepR_node rfl]
  simp only [walkX]
  split <;> rfl
end Go.Proofs.YtkegignigkhleaaDoor
namespace Go.Proofs.YtkegignigkhleaaDoor
open Go.RowKit
attribute [local go_sem ↓] Go.wp_at_zero Go.wp_at_succ

theorem nx_grown {ok : Nat → Prop} {w w' : World} {U : Nat} {n : Nx} {v : Value} {h : ByteArray} (hn : NxAt ok w n v h) (hg : w.grownBy w' (some U)) (hU : ∀ k, ok k → k ≠ U) : NxAt ok w' n v h := NxAt.keepIn (fun k hk hl => hg.block k hl (fun e => hU k hk (by injection e))) n v h hn
/-- what one reading answers, on the way to A -/
def OnePost (U T M : Nat) (A : Option (Option ByteArray × List ByteArray)) (p : List Int) (d : Nat) (w : World) (e : Ending) (w' : World) : Prop :=
  w.grownBy w' (some U) ∧ ((∃ er : Int, er ≠ 0 ∧ er ≠ 10 ∧ e = .returned (.tuple #[.nilIface, .int .i64 er]) ∧ A = none) ∨
    ∃ m v ts, e = .returned (.tuple #[v, .int .i64 0]) ∧ m.WF ∧ m.isNil = false ∧ m.isHash = false ∧ NxAt (fun k => T < k) w' m v e0 ∧ Un w' U ts ∧ (∀ t ∈ ts, t.size ≤ M) ∧ A = stepR m p d false true ts)
theorem readU_any (U T M : Nat) (n : Nx) (p : List Int) (d : Nat) (u least : Bool) (ts : List ByteArray) (v : Value) (g : ByteArray) (av : Value) (w : World) (hT : Tb w) (hU : 2 ≤ U) (hTw : T < w.heap.size) (hn : NxAt (fun k => T < k) w n v g) (hw : n.WF) (hnil : n.isNil = false)
    (hA : Abv u av) (hO : Over least av) (hun : Un w U ts) (hts : ∀ t ∈ ts, t.size ≤ M) (hM : M ≤ 9223372036854775000) (hd : d ≤ 300) :
    Calls Tryd.prog 15 #[ptr U, .agg #[v, .string g, av, .int .i64 (d : Int)]] w fun e w' => OnePost U T M (stepR n p d u least ts) p d w e w' := by
  by_cases hh : n.isHash = true
  · cases n with
    | hash h0 =>
      obtain ⟨rfl, rfl⟩ := hn
      have hav : isNd av := by
        rcases hO with ⟨_, rfl⟩ | ⟨_, t2, b2, rfl⟩
        · exact .inl rfl
        · exact .inr ⟨t2, b2, rfl⟩
      cases ts with
      | nil =>
        refine (readU_none U g av (d : Int) w hav hun).mono ?_
        rintro e w' ⟨rfl, hb⟩
        exact ⟨grown_below hb, .inl ⟨11, by decide, by decide, rfl, rfl⟩⟩
      | cons t r =>
        refine (readU_hash U g t r av d u least w hT hU hA hO hun (Nat.le_trans (hts t (List.mem_cons_self ..)) hM) hd).mono ?_
        rintro e w' ⟨hg, hun', hm⟩
        refine ⟨hg, ?_⟩
        cases ho : nodeF t g d u least with
        | none =>
          rw [ho] at hm
          obtain rfl := hm
          exact .inl ⟨12, by decide, by decide, rfl, step_bad ho p r⟩
        | some m =>
          rw [ho] at hm
          obtain ⟨v, rfl, hnx⟩ := hm
          have hwf : m.WF ∧ m.isNil = false ∧ m.isHash = false := by
            unfold nodeF at ho
            split at ho
            · cases ho
            · split at ho
              · cases ho
              · rename_i n hp
                split at ho
                · cases ho
                · injection ho with ho; subst ho; exact parseF_WF 33 t d n hp
          exact .inr ⟨m, v, r, rfl, hwf.1, hwf.2.1, hwf.2.2, NxAt.mono (fun k hk => Nat.lt_of_lt_of_le hTw hk) _ _ _ hnx, hun', fun t ht => hts t (List.mem_cons_of_mem _ ht), step_open ho p r false true⟩
    | nil => cases hh
    | leaf _ _ => cases hh
    | ext _ _ => cases hh
    | br _ _ => cases hh
  · have hh' : n.isHash = false := by simpa using hh
    obtain ⟨rfl, t, b, rfl⟩ := hn.some hnil hh'
    refine (readU_node U t b e0 av (d : Int) w).mono ?_
    rintro e w' ⟨rfl, hb⟩
    exact ⟨grown_below hb, .inr ⟨n, _, ts, rfl, hw, hnil, hh', hn.keep hb, hun.keep hb, hts, stepR_u hh' p d u false least true ts⟩⟩
theorem OnePost.form {U T M : Nat} {A : Option (Option ByteArray × List ByteArray)} {p : List Int} {d : Nat} {w w' : World} {e : Ending} (h : OnePost U T M A p d w e w') : ∃ v er, isNd v ∧ e = .returned (.tuple #[v, .int .i64 er]) := by
  obtain ⟨_, ⟨er, _, _, h, _⟩ | ⟨m, v, ts, h, _, h1, h2, h3, _⟩⟩ := h
  · exact ⟨_, er, .inl rfl, h⟩
  · exact ⟨v, 0, h3.isNd, h⟩

theorem meth_tw_leaf (b : Nat) (w : World) : (method 276 133 (ptr b) "canopy/tree.toward").run Tryd.prog w = .ok (105, ptr b) w := by kernel_rfl
theorem meth_tw_ext (b : Nat) (w : World) : (method 276 110 (ptr b) "canopy/tree.toward").run Tryd.prog w = .ok (95, ptr b) w := by kernel_rfl
theorem meth_tw_br (b : Nat) (w : World) : (method 276 112 (ptr b) "canopy/tree.toward").run Tryd.prog w = .ok (100, ptr b) w := by kernel_rfl

def lenV : Value → Nat
  | .slice _ n _ => n
  | _ => 0
/-- a round's state -/
structure GS (w : World) (U gp M : Nat) (A : Option (Option ByteArray × List ByteArray)) (n : Nx) (p : List Int) (d : Nat) (u least : Bool) (ts : List ByteArray) (op cap : Nat) (v : Value) (g : ByteArray) (av : Value) (wr : World) : Prop where
  pc : p.length ≤ cap
  ints : Ints wr (some ⟨gp, op, none⟩) p
  dp : d + p.length ≤ 128
  nib : ∀ i ∈ p, 0 ≤ i ∧ i < 16
  wf : n.WF
  nn : n.isNil = false
  node : NxAt (fun k => w.heap.size + 1 < k) wr n v g
  box : wr.heap[w.heap.size + 1]? = some (.cells #[v, .string g, av, .int .i64 (d : Int)] 62 (0, 0))
  abv : Abv u av
  over : Over least av
  un : Un wr U ts
  lim : ∀ t ∈ ts, t.size ≤ M
  grown : w.grownBy wr (some U)
  ans : stepR n p d u least ts = A
/-- what get answers -/
def GetPost (U : Nat) (A : Option (Option ByteArray × List ByteArray)) (w : World) (e : Ending) (w' : World) : Prop := w.grownBy w' (some U) ∧ match A with
  | none => ∃ er : Int, er ≠ 0 ∧ er ≠ 10 ∧ e = .returned (.tuple #[.string e0, .int .i64 er])
  | some (none, ts) => e = .returned (.tuple #[.string e0, .int .i64 10]) ∧ Un w' U ts
  | some (some v, ts) => e = .returned (.tuple #[.string v, .int .i64 0]) ∧ Un w' U ts
theorem Un.set {w : World} {U : Nat} {ts : List ByteArray} (h : Un w U ts) {T : Nat} (hT : U < T) (j : Nat) (x : Value) : Un (w.setCell ⟨T, j, none⟩ x) U ts := by
  obtain ⟨ao, cap, h1, h2, h3⟩ := h
  have ho : ∀ k, k ≠ T → (w.setCell ⟨T, j, none⟩ x).heap[k]? = w.heap[k]? := fun k hk => Below.heap_setCell _ _ _ _ (fun e => hk e)
  refine ⟨ao, cap, (ho U (by omega)).trans h1, h2, fun i hi => ?_⟩
  obtain ⟨g, o, e, hl, hc⟩ := h3 i hi
  exact ⟨g, o, e, hl, (World.cell?_of_block (w := w) (a := ⟨g, o + i, none⟩) (ho g (by omega))).trans hc⟩
theorem ints_grown {w w' : World} {U gp op : Nat} {p : List Int} (h : Ints w (some ⟨gp, op, none⟩) p) (hg : w.grownBy w' (some U)) (hne : gp ≠ U) : Ints w' (some ⟨gp, op, none⟩) p := by
  by_cases h0 : 0 < p.length
  · obtain ⟨b, off, h1, hlt, h2⟩ := h.row h0
    obtain ⟨rfl, rfl⟩ : gp = b ∧ op = off := by simpa using h1
    exact .inr ⟨gp, op, rfl, fun j hj => (World.cell?_of_block (w := w) (w' := w') (a := ⟨gp, op + j, none⟩) (hg.block gp hlt (fun e => hne (by injection e)))).trans (h2 j hj)⟩
  · exact .inl (List.length_eq_zero_iff.1 (by omega))
theorem ints_far {w w' : World} {gp op : Nat} {p : List Int} (h : Ints w (some ⟨gp, op, none⟩) p) (hg : w'.heap[gp]? = w.heap[gp]?) : Ints w' (some ⟨gp, op, none⟩) p := by
  rcases h with h | ⟨b, off, h1, h2⟩
  · exact .inl h
  · obtain ⟨rfl, rfl⟩ : gp = b ∧ op = off := by simpa using h1
    exact .inr ⟨gp, op, rfl, fun j hj => (World.cell?_of_block (w := w) (w' := w') (a := ⟨gp, op + j, none⟩) hg).trans (h2 j hj)⟩
theorem ints_drop {w : World} {gp op : Nat} {p : List Int} (h : Ints w (some ⟨gp, op, none⟩) p) (n : Nat) : Ints w (some ⟨gp, op + n, none⟩) (p.drop n) := by
  rcases h with rfl | ⟨b, off, h1, h2⟩
  · exact .inl (by simp)
  · obtain ⟨rfl, rfl⟩ : gp = b ∧ op = off := by simpa using h1
    refine .inr ⟨gp, op + n, rfl, fun j hj => ?_⟩
    rw [List.length_drop] at hj
    have := h2 (n + j) (by omega)
    rw [Nat.add_assoc, this]
    simp [List.getD_eq_getElem?_getD]
theorem gs_next {w W : World} {U gp M : Nat} {A : Option (Option ByteArray × List ByteArray)} {n : Nx} {p : List Int} {d : Nat} {u : Bool} {ts : List ByteArray} {op cap : Nat} {v : Value} {g : ByteArray} {mv a b c e : Value} (hU : U < w.heap.size) (hgl : gp < w.heap.size)
    (hbox : W.heap[w.heap.size + 1]? = some (.cells #[a, b, c, e] 62 (0, 0))) (pc : p.length ≤ cap) (ints : Ints W (some ⟨gp, op, none⟩) p) (dp : d + p.length ≤ 128) (nib : ∀ i ∈ p, 0 ≤ i ∧ i < 16) (wf : n.WF) (nn : n.isNil = false) (node : NxAt (fun k => w.heap.size + 1 < k) W n v g)
    (abv : Abv u mv) (over : ∃ t b, mv = .iface t (ptr b)) (un : Un W U ts) (lim : ∀ t ∈ ts, t.size ≤ M) (grown : w.grownBy W (some U)) (ans : A = stepR n p d u true ts) :
    GS w U gp M A n p d u true ts op cap v g mv ((((W.setCell ⟨w.heap.size + 1, 0, none⟩ v).setCell ⟨w.heap.size + 1, 1, none⟩ (.string g)).setCell ⟨w.heap.size + 1, 2, none⟩ mv).setCell ⟨w.heap.size + 1, 3, none⟩ (.int .i64 (d : Int))) := by
  have ho : ∀ k, k ≠ w.heap.size + 1 → ((((W.setCell ⟨w.heap.size + 1, 0, none⟩ v).setCell ⟨w.heap.size + 1, 1, none⟩ (.string g)).setCell ⟨w.heap.size + 1, 2, none⟩ mv).setCell ⟨w.heap.size + 1, 3, none⟩ (.int .i64 (d : Int))).heap[k]? = W.heap[k]? := fun k hk => by
    rw [Below.heap_setCell _ _ _ _ (fun e => hk e), Below.heap_setCell _ _ _ _ (fun e => hk e), Below.heap_setCell _ _ _ _ (fun e => hk e), Below.heap_setCell _ _ _ _ (fun e => hk e)]
  refine ⟨pc, ints_far ints (ho gp (by omega)), dp, nib, wf, nn, NxAt.keepIn (fun k hk _ => ho k (by omega)) _ _ _ node, setFour hbox _ _ _ _, abv, .inr ⟨rfl, over⟩, (((un.set (by omega) _ _).set (by omega) _ _).set (by omega) _ _).set (by omega) _ _, lim, ?_, ans.symm⟩
  exact ⟨grown.os, grown.tape, grown.output, by simpa [World.setCell] using grown.size, fun k hk hne => (ho k (by omega)).trans (grown.block k hk hne)⟩
end Go.Proofs.YtkegignigkhleaaDoor
