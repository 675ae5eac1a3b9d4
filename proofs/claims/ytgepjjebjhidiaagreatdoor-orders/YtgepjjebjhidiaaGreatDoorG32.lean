/-
  OUR OWN: EaF EaG EaH NoA NoB NoC NoD.
-/
import Derived.Test.YtgepjjebjhidiaaGreatDoorG24
import Derived.Test.YtgepjjebjhidiaaGreatDoorG30
import Derived.Test.YtgepjjebjhidiaaGreatDoorG17
import Derived.Test.YtgepjjebjhidiaaGreatDoorG23
import Derived.Stop.RegionWithIn
namespace Go.Proofs.YtgepjjebjhidiaaGreatDoor
open Go.RowKit Go.Shelf
attribute [local go_sem] Oper.semAt_some

/-- a path's box -/
structure PathBox (W : World) (b : Nat) (ao : Option Addr) (cap : Nat) (p : List Nat) : Prop where
  box : W.heap[b]? = some (.cells #[.slice ao p.length cap] 39 (0, 0))
  nums : Nums W ao p
  nil : ao = none → cap = 0
  cap : p.length ≤ cap
theorem PathBox.keep {W W' : World} {b : Nat} {ao : Option Addr} {cap : Nat} {p : List Nat} (h : PathBox W b ao cap p) (hk : KpP W W') : PathBox W' b ao cap p := ⟨hk.same _ _ _ _ h.box (by decide) (by decide), h.nums.keepP hk, h.nil, h.cap⟩
theorem PathBox.cell {W : World} {b : Nat} {ao : Option Addr} {cap : Nat} {p : List Nat} (h : PathBox W b ao cap p) : W.cell? ⟨b, 0, none⟩ = some (.slice ao p.length cap) := cell_of_row W _ 0 _ _ (0, 0) h.box
/-- the pairs that a value tells -/
def valPairs (q : List Nat) (k x : ByteArray) : List (ByteArray × ByteArray) := if cmpL (pathN k) q < 0 then [] else [(k, x)]
set_option maxRecDepth 100000 in
set_option maxHeartbeats 4000000 in
theorem pairsOfV_tells (bP bF bx : Nat) (ao bo : Option Addr) (ca cb : Nat) (q : List Nat) (k x : ByteArray) (v1 v3 v4 : Value) (W0 : World) (hp : PathBox W0 bP ao ca (pathN k)) (hq : PathBox W0 bF bo cb q) (hx : W0.heap[bx]? = some (.cells #[v1, .string x, v3, v4] 110 (0, 0))) (hk : k.size ≤ 65) (hql : q.length ≤ 1000) (hxs : x.size ≤ 400) :
    TellsPairs (valPairs q k x) 90 #[.pointer (some ⟨bP, 0, none⟩), .pointer (some ⟨bF, 0, none⟩), .pointer (some ⟨bx, 0, none⟩)] W0 := by
  intro m l J X W _ hkp hJ _ hY hJ0
  have hmo : Tryz.prog.follows .mixedOrders = true := by kernel_rfl
  have HP := hide (hp.keep hkp)
  have HQ := hide (hq.keep hkp)
  have HX := hide (hkp.same _ _ _ _ hx (by decide) (by decide))
  have HCell : Hid (∀ W', Below W.heap.size W W' → W'.cell? ⟨bP, 0, none⟩ = some (.slice ao (pathN k).length ca) ∧ W'.cell? ⟨bF, 0, none⟩ = some (.slice bo q.length cb) ∧ W'.cell? ⟨bx, 1, none⟩ = some (.string x)) := fun W' hW => ⟨(HP.out.keep (KpP.of_below hW)).cell, (HQ.out.keep (KpP.of_below hW)).cell, cell_of_row W' _ 1 _ _ (0, 0) ((KpP.of_below hW).same _ _ _ _ HX.out (by decide) (by decide))⟩
  have HCmp := hide (fun W' (hW : Below W.heap.size W W') => compare_any ao bo ca cb (pathN k) q W' (HP.out.nums.keep hW (Nat.le_refl _)) (HQ.out.nums.keep hW (Nat.le_refl _)) (by rw [pathN_length]; omega) hql)
  have HKey : Hid (∀ W', Below W.heap.size W W' → Calls Tryz.prog 91 #[.slice ao (pathN k).length ca] W' fun e w' => e = .returned (.string k) ∧ Below W.heap.size W w') := fun W' hW => by
    refine (key_any k ao ca W' hk (HP.out.nums.keep hW (Nat.le_refl _))).mono ?_
    rintro e w' ⟨h1, h2⟩
    exact ⟨h1, hW.trans (h2.mono hW.size)⟩
  have HCl : Hid (∀ W', Below W.heap.size W W' → Calls Tryz.prog 35 #[.string x] W' fun e w' => e = .returned (.string x) ∧ Below W.heap.size W w') := fun W' hW => by
    refine (clone_any x W' (by omega)).mono ?_
    rintro e w' ⟨h1, h2⟩
    exact ⟨h1, hW.trans (h2.mono hW.size)⟩
  have HY : Hid (¬ cmpL (pathN k) q < 0 → ∀ W', Below W.heap.size W W' → YieldAt Fence.wide (m - 1) Tryz.prog l #[.agg #[.string k, .string x], .int .i64 0] W' fun e W2 => ∃ tf, e = .returned (.bool tf) ∧ ((tf = true ∧ J [(k, x)] W2) ∨ (tf = false ∧ X [(k, x)] W2))) := fun hc W' hW => by
    obtain ⟨fn, tmps, assign, body, hy, hR⟩ := hY (m - 1) [] (k, x) W' (hJ (max (l + 1) W.heap.size) _ _ _ (by omega) hJ0 ⟨hW.os, hW.tape, hW.output, hW.size, fun j o ho _ => (hW.block j (Array.getElem?_eq_some_iff.1 ho).1).trans ho⟩) trivial (by unfold valPairs; rw [if_neg hc]; exact List.prefix_refl _)
    refine ⟨fn, tmps, assign, body, hy, hR.mono ?_⟩
    intro e W2 h
    obtain ⟨tf, he, hz, _, _⟩ := h.one
    exact ⟨tf, he, hz⟩
  have HJ0 : Hid (∀ W', Below W.heap.size W W' → J [] W') := fun W' hW => hJ (l + 1) _ _ _ (by omega) hJ0 (Turned.of_below hW)
  have HV : Hid (valPairs q k x = if cmpL (pathN k) q < 0 then [] else [(k, x)]) := rfl
  have hrg := cmpL_rng (pathN k) q
  obtain ⟨c0, c1, c2⟩ := HCell.out W (Below.refl _ _)
  clear hp hq hx hY hJ hkp
  generalize valPairs q k x = L at *
  by_cases hc : cmpL (pathN k) q < 0
  · rw [if_pos hc] at HV
    generalize cmpL (pathN k) q = z at *
    generalize (pathN k).length = pl at *
    refine callsIn_of_wp Tryz.func90 rfl trivial ?_ rfl
    simp only [Tryz.ntmps90, List.size_toArray, List.length_cons, List.length_nil, Nat.reduceAdd, Nat.reduceSub, Array.replicate_succ, Array.replicate_zero, List.push_toArray, List.append_toArray, List.nil_append, List.cons_append]
    gi_wp2_with fail
    refine ⟨trivial, fun h => absurd h (by decide), (callsIn_wide.2 (HCmp.out _ (Below.refl _ _))).mono ?_⟩
    rintro e w2 ⟨rfl, hb2⟩
    have HB2 := hide hb2
    clear hb2
    gi_wp2
    first | go_end0 | refine bodyPost_ret (results_none rfl _ _ _) rfl ?_
    exact ⟨⟨_, rfl⟩, .inl ⟨[], HV.out.symm, HJ0.out _ HB2.out⟩⟩
  · rw [if_neg hc] at HV
    have HY2 := hide (HY.out hc)
    clear HY
    have hc2 : 0 ≤ cmpL (pathN k) q := by omega
    clear hc
    generalize cmpL (pathN k) q = z at *
    generalize (pathN k).length = pl at *
    refine callsIn_of_wp Tryz.func90 rfl trivial ?_ rfl
    simp only [Tryz.ntmps90, List.size_toArray, List.length_cons, List.length_nil, Nat.reduceAdd, Nat.reduceSub, Array.replicate_succ, Array.replicate_zero, List.push_toArray, List.append_toArray, List.nil_append, List.cons_append]
    gi_wp2_with fail
    refine ⟨trivial, fun h => absurd h (by decide), (callsIn_wide.2 (HCmp.out _ (Below.refl _ _))).mono ?_⟩
    rintro e w2 ⟨rfl, hb2⟩
    have HB2 := hide hb2
    obtain ⟨c0, c1, c2⟩ := HCell.out w2 hb2
    clear hb2
    gi_wp2_with fail
    gi_region_with (first
      | (refine ⟨fun h => absurd h (by decide), HR.out.mono ?_⟩; intro e W3 h; obtain ⟨tf, rfl, hz⟩ := h; have HZ := hide hz; clear hz)
      | (refine ⟨trivial, fun h => absurd h (by decide), (callsIn_wide.2 (HKey.out _ (by first | exact HB3.out | exact HB2.out.drew))).mono ?_⟩; rintro e w3 ⟨rfl, hb3⟩; have HB3 := hide hb3; obtain ⟨c0, c1, c2⟩ := HCell.out w3 hb3; obtain ⟨fn, tmps, assign, body, hy, hR⟩ := HY2.out w3 hb3; have HR := hide hR; clear hR hb3)
      | (refine ⟨trivial, fun h => absurd h (by decide), (callsIn_wide.2 (HCl.out _ (by first | exact HB3.out | exact HB2.out.drew))).mono ?_⟩; rintro e w3 ⟨rfl, hb3⟩; have HB3 := hide hb3; obtain ⟨c0, c1, c2⟩ := HCell.out w3 hb3; obtain ⟨fn, tmps, assign, body, hy, hR⟩ := HY2.out w3 hb3; have HR := hide hR; clear hR hb3))
    all_goals
      gi_wp2
      first | go_end0 | refine bodyPost_ret (results_none rfl _ _ _) rfl ?_
      refine ⟨⟨_, rfl⟩, ?_⟩
      rcases HZ.out with ⟨_, h⟩ | ⟨_, h⟩
      · exact .inl ⟨_, HV.out.symm, h⟩
      · exact .inr ⟨_, h⟩
end Go.Proofs.YtgepjjebjhidiaaGreatDoor
namespace Go.Proofs.YtgepjjebjhidiaaGreatDoor
open Go.RowKit
attribute [local go_sem ↓] Go.wp_at_zero Go.wp_at_succ

theorem leafParts_made (b : Nat) (w : World) : Calls Tryz.prog 134 #[ptr b] w fun e w' =>
    e = .returned (.func (.func 140) #[] #[.pointer (some ⟨w.heap.size, 0, none⟩)]) ∧ w' = w.alloc (.cells #[ptr b] 97) := by
  unfold ptr
  go_enter Tryz.func134, Tryz.ntmps134
  go_wp2
  go_ret
  exact ⟨rfl, rfl⟩
theorem extParts_made (b : Nat) (w : World) : Calls Tryz.prog 158 #[ptr b] w fun e w' =>
    e = .returned (.func (.func 162) #[] #[.pointer (some ⟨w.heap.size, 0, none⟩)]) ∧ w' = w.alloc (.cells #[ptr b] 168) := by
  unfold ptr
  go_enter Tryz.func158, Tryz.ntmps158
  go_wp2
  go_ret
  exact ⟨rfl, rfl⟩
/-- what the closure of pairs holds -/
structure PairsAt (Hk : Nd → ByteArray → Prop) (ok : Nat → Prop) (W : World) (n : Nd) (p q : List Nat) (bA bP bF bS : Nat) : Prop where
  at' : ∃ u h ab dp, W.heap[bA]? = some (.cells #[u, .string h, ab, .int .i64 dp] 75 (0, 0)) ∧ NdAt Hk ok W n u ∧ (n = .nil → h = e0)
  path : ∃ ao cap, PathBox W bP ao cap p
  first : ∃ g o cap, PathBox W bF (some ⟨g, o, none⟩) cap q
  store : ∃ M, W.heap[bS]? = some (.cells #[.map (some M)] 53 (0, 0))
theorem PairsAt.keep {Hk : Nd → ByteArray → Prop} {ok : Nat → Prop} {W W' : World} {n : Nd} {p q : List Nat} {bA bP bF bS : Nat} (h : PairsAt Hk ok W n p q bA bP bF bS) (hk : KpP W W') : PairsAt Hk ok W' n p q bA bP bF bS := by
  obtain ⟨⟨u, g, ab, dp, h1, h2, h3⟩, ⟨ao, cap, h4⟩, ⟨b, o, cap2, h5⟩, ⟨M, h6⟩⟩ := h
  exact ⟨⟨u, g, ab, dp, hk.same _ _ _ _ h1 (by decide) (by decide), NdAt.keepP hk _ _ h2, h3⟩, ⟨ao, cap, h4.keep hk⟩, ⟨b, o, cap2, h5.keep hk⟩, ⟨M, hk.same _ _ _ _ h6 (by decide) (by decide)⟩⟩
/-- four boxes, one behind the other -/
theorem four_boxes (w : World) (o1 o2 o3 o4 : Obj) : ((((w.alloc o1).alloc o2).alloc o3).alloc o4).heap[w.heap.size]? = some o1 ∧ ((((w.alloc o1).alloc o2).alloc o3).alloc o4).heap[w.heap.size + 1]? = some o2 ∧ ((((w.alloc o1).alloc o2).alloc o3).alloc o4).heap[w.heap.size + 1 + 1]? = some o3 ∧ ((((w.alloc o1).alloc o2).alloc o3).alloc o4).heap[w.heap.size + 1 + 1 + 1]? = some o4 ∧ Below w.heap.size w ((((w.alloc o1).alloc o2).alloc o3).alloc o4) := by
  have a2 := heap_alloc_new (w.alloc o1) o2
  have a3 := heap_alloc_new ((w.alloc o1).alloc o2) o3
  have a4 := heap_alloc_new (((w.alloc o1).alloc o2).alloc o3) o4
  simp only [World.size_alloc] at a2 a3 a4
  refine ⟨?_, ?_, ?_, a4, (((below_alloc w o1).alloc (by simp) o2).alloc (by simp; omega) o3).alloc (by simp; omega) o4⟩
  · rw [Below.heap_alloc _ _ _ (by simp only [World.size_alloc]; omega), Below.heap_alloc _ _ _ (by simp only [World.size_alloc]; omega), Below.heap_alloc _ _ _ (by simp only [World.size_alloc]; omega)]
    exact heap_alloc_new w o1
  · rw [Below.heap_alloc _ _ _ (by simp), Below.heap_alloc _ _ _ (by simp)]
    exact a2
  · rw [Below.heap_alloc _ _ _ (by simp)]
    exact a3
set_option maxHeartbeats 1000000 in
set_option maxRecDepth 20000 in
theorem pairs_made (Hk : Nd → ByteArray → Prop) (ok : Nat → Prop) (n : Nd) (M : Nat) (u : Value) (h : ByteArray) (ab : Value) (dp : Int) (ao : Option Addr) (ca g o cb : Nat) (p q : List Nat) (w : World) (hn : NdAt Hk ok w n u) (hh : n = .nil → h = e0) (hp : Nums w ao p) (hp0 : ao = none → ca = 0) (hpc : p.length ≤ ca) (hq : Nums w (some ⟨g, o, none⟩) q) (hqc : q.length ≤ cb) :
    Calls Tryz.prog 55 #[.map (some M), .agg #[u, .string h, ab, .int .i64 dp], .slice ao p.length ca, .slice (some ⟨g, o, none⟩) q.length cb] w fun e w' =>
      ∃ bA bP bF bS, e = .returned (.func (.func 66) #[] #[.pointer (some ⟨bA, 0, none⟩), .pointer (some ⟨bP, 0, none⟩), .pointer (some ⟨bF, 0, none⟩), .pointer (some ⟨bS, 0, none⟩)]) ∧ PairsAt Hk ok w' n p q bA bP bF bS ∧ Below w.heap.size w w' := by
  have HF := hide (four_boxes w (.cells #[.map (some M)] 53) (.cells #[u, .string h, ab, .int .i64 dp] 75) (.cells #[.slice ao p.length ca] 39) (.cells #[.slice (some ⟨g, o, none⟩) q.length cb] 39))
  have HX := hide (And.intro hn (And.intro hp (And.intro hq hh)))
  clear hn hp hq hh
  go_enter Tryz.func55, Tryz.ntmps55
  go_wp2
  go_ret
  obtain ⟨k1, k2, k3, k4, kb⟩ := HF.out
  obtain ⟨hn, hp, hq, hh⟩ := HX.out
  exact ⟨w.heap.size + 1, w.heap.size + 1 + 1, w.heap.size + 1 + 1 + 1, w.heap.size, rfl, ⟨⟨u, h, ab, dp, k2, hn.keep kb, hh⟩, ⟨ao, ca, k3, hp.keep kb (Nat.le_refl _), hp0, hpc⟩, ⟨g, o, cb, k4, hq.keep kb (Nat.le_refl _), (fun e => by cases e), hqc⟩, ⟨M, k1⟩⟩, kb⟩
/-- three boxes -/
theorem three_boxes (w : World) (o1 o2 o3 : Obj) : (((w.alloc o1).alloc o2).alloc o3).heap[w.heap.size]? = some o1 ∧ (((w.alloc o1).alloc o2).alloc o3).heap[w.heap.size + 1]? = some o2 ∧ (((w.alloc o1).alloc o2).alloc o3).heap[w.heap.size + 1 + 1]? = some o3 ∧ Below w.heap.size w (((w.alloc o1).alloc o2).alloc o3) := by
  have a2 := heap_alloc_new (w.alloc o1) o2
  have a3 := heap_alloc_new ((w.alloc o1).alloc o2) o3
  simp only [World.size_alloc] at a2 a3
  refine ⟨?_, ?_, a3, ((below_alloc w o1).alloc (by simp) o2).alloc (by simp; omega) o3⟩
  · rw [Below.heap_alloc _ _ _ (by simp only [World.size_alloc]; omega), Below.heap_alloc _ _ _ (by simp only [World.size_alloc]; omega)]
    exact heap_alloc_new w o1
  · rw [Below.heap_alloc _ _ _ (by simp)]
    exact a2
set_option maxHeartbeats 1000000 in
set_option maxRecDepth 20000 in
theorem pairsOf_val (M : Nat) (x : Pt) (hx : x.val.size ≠ 0) (ab : Value) (ao bo : Option Addr) (ca cb : Nat) (p q : List Nat) (w : World) (hp : Nums w ao p) (hp0 : ao = none → ca = 0) (hpc : p.length ≤ ca) (hq : Nums w bo q) (hq0 : bo = none → cb = 0) (hqc : q.length ≤ cb) :
    Calls Tryz.prog 69 #[.map (some M), .agg #[.slice x.ao x.len x.cap, .string x.val, x.node, .string x.hash], ab, .slice ao p.length ca, .slice bo q.length cb] w fun e w' =>
      ∃ bP bF bx, e = .returned (.func (.func 90) #[] #[.pointer (some ⟨bP, 0, none⟩), .pointer (some ⟨bF, 0, none⟩), .pointer (some ⟨bx, 0, none⟩)]) ∧ PathBox w' bP ao ca p ∧ PathBox w' bF bo cb q ∧ w'.heap[bx]? = some (.cells #[.slice x.ao x.len x.cap, .string x.val, x.node, .string x.hash] 110 (0, 0)) ∧ Below w.heap.size w w' := by
  have HF := hide (three_boxes w (.cells #[.slice x.ao x.len x.cap, .string x.val, x.node, .string x.hash] 110) (.cells #[.slice ao p.length ca] 39) (.cells #[.slice bo q.length cb] 39))
  have hv := isEmptyV hx
  have HX := hide (And.intro hp hq)
  have c1 : (((w.alloc (.cells #[.slice x.ao x.len x.cap, .string x.val, x.node, .string x.hash] 110)).alloc (.cells #[.slice ao p.length ca] 39)).alloc (.cells #[.slice bo q.length cb] 39)).cell? ⟨w.heap.size, 1, none⟩ = some (.string x.val) := cell_of_row _ _ 1 _ _ (0, 0) HF.out.1
  clear hp hq
  go_enter Tryz.func69, Tryz.ntmps69
  go_wp2
  go_ret
  obtain ⟨k1, k2, k3, kb⟩ := HF.out
  obtain ⟨hp, hq⟩ := HX.out
  exact ⟨w.heap.size + 1, w.heap.size + 1 + 1, w.heap.size, rfl, ⟨k2, hp.keep kb (Nat.le_refl _), hp0, hpc⟩, ⟨k3, hq.keep kb (Nat.le_refl _), hq0, hqc⟩, k1, kb⟩
set_option maxHeartbeats 2000000 in
set_option maxRecDepth 20000 in
theorem pairsOf_sub (Hk : Nd → ByteArray → Prop) (ok : Nat → Prop) (n : Nd) (hnn : n ≠ .nil) (M : Nat) (xa : Option Addr) (xl xc : Nat) (u : Value) (h : ByteArray) (tb : TypeId) (bb : Nat) (ao : Option Addr) (ca g o cb : Nat) (p q : List Nat) (w : World) (hn : NdAt Hk ok w n u) (hp : Nums w ao p) (hp0 : ao = none → ca = 0) (hpc : p.length ≤ ca) (hq : Nums w (some ⟨g, o, none⟩) q) (hqc : q.length ≤ cb) :
    Calls Tryz.prog 69 #[.map (some M), .agg #[.slice xa xl xc, .string e0, u, .string h], .iface tb (ptr bb), .slice ao p.length ca, .slice (some ⟨g, o, none⟩) q.length cb] w fun e w' =>
      ∃ bA bP bF bS, e = .returned (.func (.func 66) #[] #[.pointer (some ⟨bA, 0, none⟩), .pointer (some ⟨bP, 0, none⟩), .pointer (some ⟨bF, 0, none⟩), .pointer (some ⟨bS, 0, none⟩)]) ∧ PairsAt Hk ok w' n p q bA bP bF bS ∧ Below w.heap.size w w' := by
  obtain ⟨t, ub, rfl⟩ := hn.some hnn
  have HF := hide (three_boxes w (.cells #[.slice xa xl xc, .string e0, .iface t (ptr ub), .string h] 110) (.cells #[.slice ao p.length ca] 39) (.cells #[.slice (some ⟨g, o, none⟩) q.length cb] 39))
  have HM : Hid (∀ W, Below w.heap.size w W → Calls Tryz.prog 55 #[.map (some M), .agg #[.iface t (ptr ub), .string h, .iface tb (ptr bb), .int .i64 (p.length : Int)], .slice ao p.length ca, .slice (some ⟨g, o, none⟩) q.length cb] W fun e w' =>
      ∃ bA bP bF bS, e = .returned (.func (.func 66) #[] #[.pointer (some ⟨bA, 0, none⟩), .pointer (some ⟨bP, 0, none⟩), .pointer (some ⟨bF, 0, none⟩), .pointer (some ⟨bS, 0, none⟩)]) ∧ PairsAt Hk ok w' n p q bA bP bF bS ∧ Below w.heap.size w w') := fun W hW => by
    refine (pairs_made Hk ok n M _ h (.iface tb (ptr bb)) p.length ao ca g o cb p q W (hn.keep hW) (fun e => absurd e hnn) (hp.keep hW (Nat.le_refl _)) hp0 hpc (hq.keep hW (Nat.le_refl _)) hqc).mono ?_
    rintro e w' ⟨bA, bP, bF, bS, h1, h2, h3⟩
    exact ⟨bA, bP, bF, bS, h1, h2, hW.trans (h3.mono hW.size)⟩
  clear hn hp hq
  unfold ptr at *
  go_enter Tryz.func69, Tryz.ntmps69
  go_wp2_with fail
  refine (HM.out _ HF.out.2.2.2).mono ?_
  rintro e w2 ⟨bA, bP, bF, bS, rfl, h2, h3⟩
  have HX := hide (And.intro h2 h3)
  clear h2 h3
  go_wp2
  go_ret
  exact ⟨bA, bP, bF, bS, rfl, HX.out.1, HX.out.2⟩
end Go.Proofs.YtgepjjebjhidiaaGreatDoor
namespace Go.Proofs.YtgepjjebjhidiaaGreatDoor
open Go.RowKit Go.Shelf

def keyOf (p : List Nat) : ByteArray := strOfNums (pairUp (intsOf p))
theorem keyOf_path (k : ByteArray) : keyOf (pathN k) = k := by
  unfold keyOf pathN
  rw [pairUp_nibs, str_bytes]
/-- what is told of paths and values: those that are not below q -/
def tellL (q : List Nat) (l : List (List Nat × ByteArray)) : List (ByteArray × ByteArray) := l.flatMap fun x => if cmpL x.1 q < 0 then [] else [(keyOf x.1, x.2)]
theorem tellL_append (q : List Nat) (l m : List (List Nat × ByteArray)) : tellL q (l ++ m) = tellL q l ++ tellL q m := by simp [tellL]
theorem tellL_none {q : List Nat} {l : List (List Nat × ByteArray)} (h : ∀ x ∈ l, plt x.1 q) : tellL q l = [] := by
  unfold tellL
  rw [List.flatMap_eq_nil_iff]
  intro x hx
  rw [if_pos ((cmpL_neg _ _).2 (h x hx))]
theorem tellL_val (q p : List Nat) (k x : ByteArray) (h : p = pathN k) : tellL q [(p, x)] = valPairs q k x := by
  subst h
  unfold tellL valPairs
  simp [keyOf_path]
theorem plt_far : ∀ (p q r : List Nat), plt p (q.take p.length) → plt (p ++ r) q
  | [], _, _, h => by simp [plt] at h
  | a :: p, [], r, h => by simp [plt] at h
  | a :: p, b :: q, r, h => by
    simp only [List.length_cons, List.take_succ_cons, plt, List.cons_append] at h ⊢
    exact h.imp id (fun h => ⟨h.1, plt_far p q r h.2⟩)
/-- paths of keys, values within bounds -/
def KeysOk (l : List (List Nat × ByteArray)) : Prop := ∀ x ∈ l, (∃ k : ByteArray, x.1 = pathN k ∧ k.size ≤ 64) ∧ x.2.size ≤ 400
theorem KeysOk.len {l : List (List Nat × ByteArray)} (h : KeysOk l) {x : List Nat × ByteArray} (hx : x ∈ l) : x.1.length ≤ 128 := by
  obtain ⟨⟨k, e, hk⟩, _⟩ := h x hx
  rw [e, pathN_length]; omega
theorem parts_sub {n m : Nd} {p' : List Nat} (hw : n.WF) (h : PS.sub p' m ∈ n.partsL) : m.WF ∧ m ≠ .nil := by
  cases n with
  | nil => simp [Nd.partsL] at h
  | leaf p x => simp [Nd.partsL] at h
  | ext p n =>
    simp [Nd.partsL] at h
    obtain ⟨rfl, rfl⟩ := h
    refine ⟨hw.2.2.2, fun e => ?_⟩
    have := hw.2.2.1
    rw [e] at this
    simp [Nd.isBr] at this
  | br c x =>
    simp only [Nd.partsL, List.mem_append, List.mem_map] at h
    rcases h with h | ⟨i, hi, e⟩
    · split at h <;> simp at h
    · injection e with _ e
      subst e
      exact ⟨hw.1 i, ((full_mem c i).1 hi).2⟩
theorem parts_flat {n : Nd} {s : PS} {p : List Nat} (h : s ∈ n.partsL) : ∀ x ∈ s.flat p, x ∈ n.flat p := fun x hx => by
  rw [flat_parts]
  exact List.mem_flatMap.2 ⟨s, h, hx⟩
/-- every part holds something -/
theorem part_some {n : Nd} {s : PS} {p : List Nat} (hw : n.WF) (h : s ∈ n.partsL) : ∃ r x, (p ++ s.path ++ r, x) ∈ s.flat p := by
  cases s with
  | val p' x => exact ⟨[], x, by simp [PS.flat, PS.path]⟩
  | sub p' m =>
    obtain ⟨hm, hn⟩ := parts_sub hw h
    obtain ⟨r, hr, _⟩ := look_some m hm hn
    refine ⟨r, m.look r, ?_⟩
    show _ ∈ m.flat (p ++ p')
    rw [flat_mem m _ _ hm]
    exact ⟨r, rfl, rfl, hr⟩
theorem part_len {n : Nd} {s : PS} {p : List Nat} (hw : n.WF) (hk : KeysOk (n.flat p)) (h : s ∈ n.partsL) : (p ++ s.path).length ≤ 128 := by
  obtain ⟨r, x, hx⟩ := part_some (p := p) hw h
  have := hk.len (parts_flat h _ hx)
  simp only [List.length_append] at this ⊢
  omega
theorem meth_pa_leaf (b : Nat) (w : World) : (method 336 97 (ptr b) "canopy/tree.parts").run Tryz.prog w = .ok (134, ptr b) w := by kernel_rfl
theorem meth_pa_ext (b : Nat) (w : World) : (method 336 168 (ptr b) "canopy/tree.parts").run Tryz.prog w = .ok (158, ptr b) w := by kernel_rfl
theorem meth_pa_br (b : Nat) (w : World) : (method 336 170 (ptr b) "canopy/tree.parts").run Tryz.prog w = .ok (113, ptr b) w := by kernel_rfl
/-- a node's parts, of whichever kind -/
theorem node_parts (Hk : Nd → ByteArray → Prop) (ok : Nat → Prop) (n : Nd) (W : World) (u : Value) (hw : n.WF) (hn : NdAt Hk ok W n u) (hnn : n ≠ .nil) :
    ∃ t b fid gf, ∃ tt : TypeId, u = .iface t (ptr b) ∧ (∀ w, (method 336 t (ptr b) "canopy/tree.parts").run Tryz.prog w = .ok (fid, ptr b) w) ∧ (∀ args w, (callFunc fid args).run Tryz.prog w = .ok (.enter fid args) w) ∧ (∀ args w, (callFunc gf args).run Tryz.prog w = .ok (.enter gf args) w) ∧
      (∀ w, Calls Tryz.prog fid #[ptr b] w fun e w' => e = .returned (.func (.func gf) #[] #[.pointer (some ⟨w.heap.size, 0, none⟩)]) ∧ w' = w.alloc (.cells #[ptr b] tt)) ∧
      (∀ W' bx, W'.heap[bx]? = some (.cells #[ptr b] tt (0, 0)) → NdAt Hk ok W' n (.iface t (ptr b)) → TellsParts Hk ok n gf #[.pointer (some ⟨bx, 0, none⟩)] W') := by
  cases n with
  | nil => exact absurd rfl hnn
  | leaf p x =>
    obtain ⟨b, _, _, e, _⟩ := id hn
    exact ⟨_, b, _, _, _, e, meth_pa_leaf b, fun _ _ => by kernel_rfl, fun _ _ => by kernel_rfl, leafParts_made b, fun W' bx h1 h2 => leafParts_tells Hk ok bx b p x W' h1 h2 hw.1⟩
  | ext p m =>
    obtain ⟨b, _, _, _, _, e, _⟩ := id hn
    exact ⟨_, b, _, _, _, e, meth_pa_ext b, fun _ _ => by kernel_rfl, fun _ _ => by kernel_rfl, extParts_made b, fun W' bx h1 h2 => extParts_tells Hk ok bx b p m W' h1 h2 (fun e => by
      have := hw.2.2.1
      rw [e] at this
      simp [Nd.isBr] at this)⟩
  | br c x =>
    obtain ⟨b, _, _, e, _⟩ := id hn
    exact ⟨_, b, _, _, _, e, meth_pa_br b, fun _ _ => by kernel_rfl, fun _ _ => by kernel_rfl, brParts_made b, fun W' bx h1 h2 => brParts_tells Hk ok bx b c x W' h1 h2⟩
/-- the pairs of a tree are told, wherever it lies -/
def PairsOk (Hk : Nd → ByteArray → Prop) (ok : Nat → Prop) (n : Nd) : Prop :=
  ∀ (p q : List Nat) (bA bP bF bS : Nat) (W0 : World), n.WF → KeysOk (n.flat p) → q.length ≤ 1000 → p.length ≤ 1000 → PairsAt Hk ok W0 n p q bA bP bF bS →
    TellsPairs (tellL q (n.flat p)) 66 #[.pointer (some ⟨bA, 0, none⟩), .pointer (some ⟨bP, 0, none⟩), .pointer (some ⟨bF, 0, none⟩), .pointer (some ⟨bS, 0, none⟩)] W0
end Go.Proofs.YtgepjjebjhidiaaGreatDoor
namespace Go.Proofs.YtgepjjebjhidiaaGreatDoor
open Go.RowKit Go.Shelf

/-- what a round keeps: nodes, and cells that are no extensions, branches, entries, slices of entries -/
structure KpC (ok : Nat → Prop) (W W' : World) : Prop where
  size : W.heap.size ≤ W'.heap.size
  same : ∀ (k : Nat) (cs : Array Value) (t : TypeId) (fr : Nat × Nat), W.heap[k]? = some (Obj.cells cs t fr) → t ≠ 189 → t ≠ 192 → t ≠ 48 → t ≠ 43 → W'.heap[k]? = some (Obj.cells cs t fr)
  node : ∀ (n : Nd) (v : Value), NdAt HkC ok W n v → NdAt HkC ok W' n v
theorem KpC.of_turned {ok : Nat → Prop} {B : Nat} {A A' : World} (h : Turned B A A') : KpC ok A A' :=
  ⟨h.size, fun k _ _ _ hk _ _ _ _ => h.same k _ hk (.inr rfl), fun n v hn => NdAt.keepP (KpP.of_turned h) n v hn⟩
theorem KpC.of_below {ok : Nat → Prop} {A A' : World} (h : Below A.heap.size A A') : KpC ok A A' := KpC.of_turned (B := 0) (Turned.of_below h)
theorem KpC.refl {ok : Nat → Prop} (A : World) : KpC ok A A := KpC.of_below (Below.refl _ _)
theorem KpC.trans {ok : Nat → Prop} {A A' A'' : World} (h : KpC ok A A') (h' : KpC ok A' A'') : KpC ok A A'' :=
  ⟨Nat.le_trans h.size h'.size, fun k cs t fr hk n1 n2 n3 n4 => h'.same k cs t fr (h.same k cs t fr hk n1 n2 n3 n4) n1 n2 n3 n4, fun n v hn => h'.node n v (h.node n v hn)⟩
theorem KpC.turn {ok : Nat → Prop} {B : Nat} (A A2 A3 A4 : World) (h1 : Turned B A A2) (h2 : KpC ok A2 A3) (h3 : Turned B A3 A4) : KpC ok A A4 := ((KpC.of_turned h1).trans h2).trans (KpC.of_turned h3)
theorem KpC.of_keepH {ok : Nat → Prop} {A A' : World} (h : KeepH ok A A') : KpC ok A A' :=
  ⟨h.size, fun k cs t fr hk n1 n2 _ _ => h.other k _ hk (fun cs' t' fr' e => by injection e with _ e _; subst e; exact ⟨n1, n2⟩), h.node ok⟩
/-- a function that tells a loop things, one by one, under K -/
def TellsK {α : Type} (K : World → World → Prop) (enc : α → Array Value) (Fx : α → World → Prop) (Ok : List α → α → Prop) (Done : List α → Prop) (f : Nat) (lb : Array Value) (W0 : World) : Prop :=
  ∀ (m l : Nat) (J X : List α → World → Prop) (W : World), l < W.heap.size → K W0 W → Firm l J → Firm l X →
    (∀ m' pre x W1, J pre W1 → Fx x W1 → Ok pre x → YieldAt Fence.wide m' Tryz.prog l (enc x) W1 (yieldBy l K J X (pre ++ [x]) W1)) → J [] W →
    CallsIn Fence.wide m Tryz.prog f (#[.func (.yield l) #[] #[]] ++ lb) W fun e W' => (∃ v, e = .returned v) ∧ ((∃ xs, Done xs ∧ J xs W') ∨ ∃ xs, X xs W')
/-- a part's tree -/
def PS.tree : PS → Nd
  | .val _ _ => .nil
  | .sub _ m => m
/-- what is told of a part: its node -/
def PtC (ok : Nat → Prop) (y : PS × Pt) (W : World) : Prop := NdAt HkC ok W y.1.tree y.2.node
theorem PtC.keep {ok : Nat → Prop} {y : PS × Pt} {W W' : World} (h : PtC ok y W) (hk : KpC ok W W') : PtC ok y W' := hk.node _ _ h
def TellsPartsC (ok : Nat → Prop) (n : Nd) (f : Nat) (lb : Array Value) (W0 : World) : Prop :=
  TellsK (KpC ok) encPart (PtC ok) (fun pre y => (pre ++ [y]).map Prod.fst <+: n.partsL) (fun xs => xs.map Prod.fst = n.partsL) f lb W0
/-- how great a tree is -/
def Nd.sz : Nd → Nat
  | .nil => 0
  | .leaf _ _ => 1
  | .ext _ n => n.sz + 1
  | .br c _ => ((List.range 16).map fun i => (c i).sz).sum + 1
/-- the nodes of a tree, each ahead of what is under it -/
def Nd.nodesL : Nd → List Nd
  | .nil => []
  | .leaf p x => [.leaf p x]
  | .ext p n => .ext p n :: n.nodesL
  | .br c x => .br c x :: (List.range 16).flatMap fun i => (c i).nodesL
def PS.nodes (s : PS) : List Nd := s.tree.nodesL
theorem nodes_filter {c : Nat → Nd} : ∀ (L : List Nat), (L.filter (fun i => !(c i).isNil)).flatMap (fun i => (c i).nodesL) = L.flatMap (fun i => (c i).nodesL)
  | [] => rfl
  | i :: L => by
    rw [List.filter_cons]
    cases h : (c i).isNil with
    | false => simp [nodes_filter L]
    | true =>
      have e : c i = .nil := (isNil_iff _).1 h
      simp [nodes_filter L, e, Nd.nodesL]
theorem nodes_parts (n : Nd) (h : n ≠ .nil) : n.nodesL = n :: n.partsL.flatMap PS.nodes := by
  cases n with
  | nil => exact absurd rfl h
  | leaf p x => simp [Nd.nodesL, Nd.partsL, PS.nodes, PS.tree]
  | ext p m => simp [Nd.nodesL, Nd.partsL, PS.nodes, PS.tree]
  | br c x =>
    have h := nodes_filter (c := c) (List.range 16)
    simp only [Nd.nodesL, Nd.partsL, List.flatMap_append, ← h]
    congr 1
    have e : ((if x.size = 0 then [] else [PS.val [] x]).flatMap PS.nodes : List Nd) = [] := by split <;> simp [PS.nodes, PS.tree, Nd.nodesL]
    rw [e]
    simp [full, List.flatMap_map, PS.nodes, PS.tree]
theorem le_sum {l : List Nat} {x : Nat} (h : x ∈ l) : x ≤ l.sum := by
  induction l with
  | nil => simp at h
  | cons a r ih =>
    rw [List.sum_cons]
    rcases List.mem_cons.1 h with rfl | h
    · omega
    · have := ih h; omega
theorem sz_sub {n m : Nd} {p : List Nat} (h : PS.sub p m ∈ n.partsL) : m.sz < n.sz := by
  cases n with
  | nil => simp [Nd.partsL] at h
  | leaf p x => simp [Nd.partsL] at h
  | ext p n =>
    simp [Nd.partsL] at h
    obtain ⟨_, rfl⟩ := h
    simp [Nd.sz]
  | br c x =>
    simp only [Nd.partsL, List.mem_append, List.mem_map] at h
    rcases h with h | ⟨i, hi, e⟩
    · split at h <;> simp at h
    · injection e with _ e
      subst e
      have h1 := le_sum (l := (List.range 16).map fun i => (c i).sz) (x := (c i).sz) (List.mem_map.2 ⟨i, List.mem_range.2 ((full_mem c i).1 hi).1, rfl⟩)
      show _ < _ + 1
      omega
theorem sz_pos {n : Nd} (h : n ≠ .nil) : 0 < n.sz := by
  cases n with
  | nil => exact absurd rfl h
  | leaf p x => simp [Nd.sz]
  | ext p m => simp [Nd.sz]
  | br c x => simp [Nd.sz]
theorem sz_part {n : Nd} {s : PS} (hn : n ≠ .nil) (h : s ∈ n.partsL) : s.tree.sz < n.sz := by
  cases s with
  | val p x => exact sz_pos hn
  | sub p m => exact sz_sub h
theorem flatMap_prefix {α β : Type} {l l' : List α} (f : α → List β) (h : l <+: l') : l.flatMap f <+: l'.flatMap f := by
  obtain ⟨t, rfl⟩ := h
  rw [List.flatMap_append]
  exact List.prefix_append _ _
/-- what is told of a node of the tree n, which is v -/
def NsC (ok : Nat → Prop) (n : Nd) (v : Value) (y : Nd × Value) (W : World) : Prop :=
  y.1 ≠ .nil ∧ NdAt HkC ok W y.1 y.2 ∧ ((y.1 = n ∧ y.2 = v) ∨ y.1.sz < n.sz)
theorem NsC.keep {ok : Nat → Prop} {n : Nd} {v : Value} {y : Nd × Value} {W W' : World} (h : NsC ok n v y W) (hk : KpC ok W W') : NsC ok n v y W' := ⟨h.1, hk.node _ _ h.2.1, h.2.2⟩
def encNode (y : Nd × Value) : Array Value := #[y.2]
def TellsNodes (ok : Nat → Prop) (n : Nd) (v : Value) (f : Nat) (lb : Array Value) (W0 : World) : Prop :=
  TellsK (KpC ok) encNode (NsC ok n v) (fun pre y => (pre ++ [y]).map Prod.fst <+: n.nodesL) (fun xs => xs.map Prod.fst = n.nodesL) f lb W0
end Go.Proofs.YtgepjjebjhidiaaGreatDoor
namespace Go.Proofs.YtgepjjebjhidiaaGreatDoor
open Go.RowKit Go.Shelf
attribute [local go_sem] Oper.semAt_some

set_option maxRecDepth 100000 in
set_option maxHeartbeats 2000000 in
theorem leafParts_C (ok : Nat → Prop) (bx b : Nat) (p : List Nat) (x : ByteArray) (W0 : World) (hb : W0.heap[bx]? = some (.cells #[ptr b] 97 (0, 0))) (hn : NdAt HkC ok W0 (.leaf p x) (.iface 97 (ptr b))) :
    TellsPartsC ok (.leaf p x) 140 #[.pointer (some ⟨bx, 0, none⟩)] W0 := by
  intro m l J X W _ hk hJ _ hY hJ0
  have hmo : Tryz.prog.follows .mixedOrders = true := by kernel_rfl
  obtain ⟨b', ao, cap, e1, _, _, h2, _⟩ := hk.node _ _ hn
  have hbb : b' = b := by
    have e1 : Value.iface 97 (ptr b) = .iface 97 (ptr b') := e1
    unfold ptr at e1
    injection e1 with _ e1
    injection e1 with e1
    injection e1 with e1
    injection e1 with e1
    exact e1.symm
  subst hbb
  clear e1
  have hb' := hk.same _ _ _ _ hb (by decide) (by decide) (by decide) (by decide)
  have c0 : W.cell? ⟨bx, 0, none⟩ = some (.pointer (some ⟨b', 0, none⟩)) := cell_of_row W _ 0 _ _ (0, 0) hb'
  have c1 : W.cell? ⟨b', 0, none⟩ = some (.slice ao p.length cap) := cell_of_row W _ 0 _ _ (0, 0) h2
  have c2 : W.cell? ⟨b', 1, none⟩ = some (.string x) := cell_of_row W _ 1 _ _ (0, 0) h2
  obtain ⟨fn, tmps, assign, body, hy, hR⟩ := hY (m - 1) [] (.val p x, ⟨ao, p.length, cap, x, .nilIface, e0, .inl rfl⟩) W.drew (hJ (l + 1) _ _ _ (by omega) hJ0 (Turned.of_below ((Below.refl _ _).drew))) rfl (List.prefix_refl _)
  dsimp only [encPart, Pt.enc] at hy
  have HR := hide hR
  clear hR hY hk hn hb
  refine callsIn_of_wp Tryz.func140 rfl trivial ?_ rfl
  simp only [Tryz.ntmps140, List.size_toArray, List.length_cons, List.length_nil, Nat.reduceAdd, Nat.reduceSub, Array.replicate_succ, Array.replicate_zero, List.push_toArray, List.append_toArray, List.nil_append, List.cons_append]
  gi_wp2_with fail
  gi_region_with (refine ⟨fun h => absurd h (by decide), HR.out.mono ?_⟩; intro e W3 h; obtain ⟨tf, rfl, hz, _, _⟩ := h.one; have HZ := hide hz; clear hz h)
  all_goals
    gi_wp2
    go_end0
    refine ⟨⟨_, rfl⟩, ?_⟩
    rcases HZ.out with ⟨_, h⟩ | ⟨_, h⟩
    · exact .inl ⟨_, rfl, h⟩
    · exact .inr ⟨_, h⟩
set_option maxRecDepth 100000 in
set_option maxHeartbeats 2000000 in
theorem extParts_C (ok : Nat → Prop) (bx b : Nat) (p : List Nat) (n : Nd) (W0 : World) (hb : W0.heap[bx]? = some (.cells #[ptr b] 168 (0, 0))) (hn : NdAt HkC ok W0 (.ext p n) (.iface 168 (ptr b))) (hx : n ≠ .nil) :
    TellsPartsC ok (.ext p n) 162 #[.pointer (some ⟨bx, 0, none⟩)] W0 := by
  intro m l J X W _ hk hJ _ hY hJ0
  have hmo : Tryz.prog.follows .mixedOrders = true := by kernel_rfl
  obtain ⟨b', ao, cap, u, g, e1, _, _, h2, _, _, _, h6, _⟩ := hk.node _ _ hn
  have hbb : b' = b := by
    have e1 : Value.iface 168 (ptr b) = .iface 168 (ptr b') := e1
    unfold ptr at e1
    injection e1 with _ e1
    injection e1 with e1
    injection e1 with e1
    injection e1 with e1
    exact e1.symm
  subst hbb
  clear e1
  have hb' := hk.same _ _ _ _ hb (by decide) (by decide) (by decide) (by decide)
  obtain ⟨t, ub, rfl⟩ := h6.some hx
  have c0 : W.cell? ⟨bx, 0, none⟩ = some (.pointer (some ⟨b', 0, none⟩)) := cell_of_row W _ 0 _ _ (0, 0) hb'
  have c1 : W.cell? ⟨b', 0, none⟩ = some (.slice ao p.length cap) := cell_of_row W _ 0 _ _ (0, 0) h2
  have c2 : W.cell? ⟨b', 1, none⟩ = some (.iface t (.pointer (some ⟨ub, 0, none⟩))) := cell_of_row W _ 1 _ _ (0, 0) h2
  have c3 : W.cell? ⟨b', 2, none⟩ = some (.string g) := cell_of_row W _ 2 _ _ (0, 0) h2
  obtain ⟨fn, tmps, assign, body, hy, hR⟩ := hY (m - 1) [] (.sub p n, ⟨ao, p.length, cap, e0, .iface t (ptr ub), g, .inr ⟨t, ub, rfl⟩⟩) W.drew (hJ (l + 1) _ _ _ (by omega) hJ0 (Turned.of_below ((Below.refl _ _).drew))) (h6.keep ((Below.refl _ _).drew)) (List.prefix_refl _)
  dsimp only [encPart, Pt.enc] at hy
  unfold ptr at hy
  have HR := hide hR
  clear hR hY hk hn hb
  refine callsIn_of_wp Tryz.func162 rfl trivial ?_ rfl
  simp only [Tryz.ntmps162, List.size_toArray, List.length_cons, List.length_nil, Nat.reduceAdd, Nat.reduceSub, Array.replicate_succ, Array.replicate_zero, List.push_toArray, List.append_toArray, List.nil_append, List.cons_append]
  gi_wp2_with fail
  gi_region_with (refine ⟨fun h => absurd h (by decide), HR.out.mono ?_⟩; intro e W3 h; obtain ⟨tf, rfl, hz, _, _⟩ := h.one; have HZ := hide hz; clear hz h)
  all_goals
    gi_wp2
    go_end0
    refine ⟨⟨_, rfl⟩, ?_⟩
    rcases HZ.out with ⟨_, h⟩ | ⟨_, h⟩
    · exact .inl ⟨_, rfl, h⟩
    · exact .inr ⟨_, h⟩
end Go.Proofs.YtgepjjebjhidiaaGreatDoor
namespace Go.Proofs.YtgepjjebjhidiaaGreatDoor
open Go.RowKit Go.Shelf
attribute [local go_sem] Oper.semAt_some

/-- the loop of a branch, at its place i -/
def BrC (ok : Nat → Prop) (c : Nat → Nd) (x : ByteArray) (J : List (PS × Pt) → World → Prop) (W : World) (iv : Value) (wr : World) : Prop :=
  ∃ (i : Nat) (xs : List (PS × Pt)), i ≤ 16 ∧ iv = .int .i64 (i : Int) ∧ xs.map Prod.fst = brTo c x i ∧ J xs wr ∧ KpC ok W wr
set_option maxRecDepth 100000 in
set_option maxHeartbeats 4000000 in
theorem brParts_C (ok : Nat → Prop) (bx b : Nat) (c : Nat → Nd) (x : ByteArray) (W0 : World) (hb : W0.heap[bx]? = some (.cells #[ptr b] 170 (0, 0))) (hn : NdAt HkC ok W0 (.br c x) (.iface 170 (ptr b))) :
    TellsPartsC ok (.br c x) 117 #[.pointer (some ⟨bx, 0, none⟩)] W0 := by
  intro m l J X W hl hk hJ _ hY hJ0
  have hbx0 := fun (V : World) (h : KpC ok W0 V) => h.same _ _ _ _ hb (by decide) (by decide) (by decide) (by decide)
  have hAt : ∀ V, KpC ok W0 V → ∃ us hs, V.heap[b]? = some (.cells (brCells us hs x) 192 (0, 0)) ∧ (∀ i, i < 16 → NdAt HkC ok V (c i) (us i)) ∧ (∀ i, i < 16 → (c i = .nil ∧ us i = .nilIface ∧ hs i = e0) ∨ (c i ≠ .nil ∧ ∃ t ub, us i = .iface t (ptr ub))) := fun V hV => by
    obtain ⟨b', us, hs, e1, _, h2, h3⟩ := hV.node _ _ hn
    have hbb : b' = b := by
      have e1 : Value.iface 170 (ptr b) = .iface 170 (ptr b') := e1
      unfold ptr at e1
      injection e1 with _ e1
      injection e1 with e1
      injection e1 with e1
      injection e1 with e1
      exact e1.symm
    subst hbb
    refine ⟨us, hs, h2, fun i hi => (h3 i hi).1, fun i hi => ?_⟩
    obtain ⟨k1, k2⟩ := h3 i hi
    by_cases hc : c i = .nil
    · rw [hc] at k1
      refine .inl ⟨hc, k1, ?_⟩
      rcases k2 with k2 | ⟨k2, _⟩
      · exact k2
      · exact absurd hc k2
    · exact .inr ⟨hc, k1.some hc⟩
  have HY := hide hY
  have HJ : Hid (∀ pre A A', J pre A → Below A.heap.size A A' → J pre A') := fun pre A A' h hb => hJ (l + 1) _ _ _ (by omega) h (Turned.of_below hb)
  have hb' := hbx0 W hk
  have HAt := hide hAt
  have HBx := hide hbx0
  have HKW := hide hk
  clear hY hJ hb hn hAt hbx0 hk
  have c0 : W.cell? ⟨bx, 0, none⟩ = some (.pointer (some ⟨b, 0, none⟩)) := cell_of_row W _ 0 _ _ (0, 0) hb'
  have HRound : Hid (∀ (us : Nat → Value) (hs : Nat → ByteArray) (Wc : World), (∀ i, i < 16 → NdAt HkC ok Wc (c i) (us i)) → ∀ (xs : List (PS × Pt)) (i : Nat) (wr : World) (t : TypeId) (ub : Nat), i < 16 → xs.map Prod.fst = brTo c x i → J xs wr → KpC ok Wc wr → c i ≠ .nil → us i = .iface t (ptr ub) →
      YieldAt Fence.wide (m - 1) Tryz.prog l #[.agg #[.slice (some ⟨wr.heap.size + 1, 0, none⟩) 1 1, .string e0, .iface t (ptr ub), .string (hs i)]] ((wr.alloc (.cells #[.iface t (ptr ub), .string (hs i)] 57)).alloc (.cells #[.int .i64 (i : Int)] 3)) fun e W' =>
        ∃ tf, e = .returned (.bool tf) ∧ ((tf = true ∧ BrC ok c x J Wc (.int .i64 ((i + 1 : Nat) : Int)) W') ∨ (tf = false ∧ ∃ xs, X xs W'))) := fun us hs Wc hN xs i wr t ub hi hxs hJx hkw hc hu => by
    have bel : Below wr.heap.size wr ((wr.alloc (.cells #[.iface t (ptr ub), .string (hs i)] 57)).alloc (.cells #[.int .i64 (i : Int)] 3)) := below_alloc2 _ _ _
    have hY := HY.out (m - 1) xs (.sub [i] (c i), ⟨some ⟨wr.heap.size + 1, 0, none⟩, 1, 1, e0, .iface t (ptr ub), hs i, .inr ⟨t, ub, rfl⟩⟩) _ (HJ.out _ _ _ hJx bel)
      (by
          have h := hN i hi
          rw [hu] at h
          exact (hkw.node _ _ h).keep bel) (by
        show List.map Prod.fst (xs ++ [_]) <+: _
        rw [List.map_append, hxs]
        show brTo c x i ++ [PS.sub [i] (c i)] <+: _
        rw [← brTo_take hc]
        exact brTo_pre c x (16 - (i + 1)) (i + 1) (by omega))
    obtain ⟨fn, tmps, assign, body, hy, hR⟩ := hY
    refine ⟨fn, tmps, assign, body, hy, hR.mono ?_⟩
    intro e W' h
    obtain ⟨tf, he, hz, hk1, _⟩ := h.one
    refine ⟨tf, he, hz.imp (fun h => ⟨h.1, i + 1, _, by omega, rfl, ?_, h.2, (hkw.trans (KpC.of_below bel)).trans hk1⟩) (fun h => ⟨h.1, _, h.2⟩)⟩
    rw [List.map_append, hxs, brTo_take hc]
    rfl
  have HV : Hid (x.size ≠ 0 → YieldAt Fence.wide (m - 1) Tryz.prog l #[.agg #[.slice none 0 0, .string x, .nilIface, .string ⟨#[]⟩]] W fun e W' =>
      ∃ tf, e = .returned (.bool tf) ∧ ((tf = true ∧ BrC ok c x J W' (.int .i64 0) W' ∧ KpC ok W W') ∨ (tf = false ∧ ∃ xs, X xs W'))) := fun hx => by
    have hp : brTo c x 0 = [.val [] x] := by simp [brTo, hx]
    obtain ⟨fn, tmps, assign, body, hy, hR⟩ := HY.out (m - 1) [] (.val [] x, ⟨none, 0, 0, x, .nilIface, e0, .inl rfl⟩) W hJ0 rfl (by
      show [PS.val [] x] <+: _
      rw [← hp]
      exact brTo_pre c x 16 0 (by omega))
    refine ⟨fn, tmps, assign, body, hy, hR.mono ?_⟩
    intro e W' h
    obtain ⟨tf, he, hz, hk1, _⟩ := h.one
    refine ⟨tf, he, hz.imp (fun h => ⟨h.1, ⟨0, _, by omega, rfl, ?_, h.2, KpC.refl _⟩, hk1⟩) (fun h => ⟨h.1, _, h.2⟩)⟩
    exact hp.symm
  have HSkip : Hid (∀ (Wc : World) (xs : List (PS × Pt)) (i : Nat) (wr : World) (o : Obj), i < 16 → xs.map Prod.fst = brTo c x i → J xs wr → KpC ok Wc wr → c i = .nil → BrC ok c x J Wc (.int .i64 ((i + 1 : Nat) : Int)) (wr.alloc o)) := fun Wc xs i wr o hi hxs hJx hkw hc =>
    ⟨i + 1, xs, by omega, rfl, by rw [hxs, brTo_skip hc], HJ.out _ _ _ hJx (below_alloc wr _), hkw.trans (KpC.of_below (below_alloc wr _))⟩
  have HStart : Hid (x.size = 0 → BrC ok c x J W (.int .i64 0) W) := fun hx => ⟨0, [], by omega, rfl, by simp [brTo, hx], hJ0, KpC.refl _⟩
  by_cases hx0 : x.size = 0
  · obtain rfl : x = e0 := e0_of hx0
    obtain ⟨us, hs, h2, hNc, hus⟩ := HAt.out W HKW.out
    have HNc := hide hNc
    clear hNc
    have hsz := sizeRefs us hs
    have hidx := fun w i hi => run_refs w us hs i hi
    have hrg0 : World.rangeAt W b 0 (brRefs us hs) := brRefs_at h2
    generalize brRefs us hs = R at *
    have c1 : W.cell? ⟨b, 32, none⟩ = some (.string e0) := br_val h2
    refine callsIn_of_wp Tryz.func117 rfl trivial ?_ rfl
    simp only [Tryz.ntmps117, List.size_toArray, List.length_cons, List.length_nil, Nat.reduceAdd, Nat.reduceSub, Array.replicate_succ, Array.replicate_zero, List.push_toArray, List.append_toArray, List.nil_append, List.cons_append]
    gi_wp2_with (first
      | (refine wpListIn_load_mid rfl 190 (.tmp 22) rfl b 0 rfl R _ hrg0 Tryz.underlying190 rfl hsz ?_)
      | (refine wpListIn_skip rfl rfl ?_))
    gi_loopw [24] (BrC ok c e0 J W) (fun iv _ => 16 - (intOf iv).toNat)
    case atStart => exact HStart.out rfl
    case round =>
      obtain ⟨i, xs, hi, rfl, hxs, hJx, hkw⟩ := hrel
      by_cases hlt : i < 16
      · have hix := hidx wr i hlt
        rcases hus i hlt with ⟨hc, e1, e2⟩ | ⟨hc, t, ub, e1⟩
        · rw [e1, e2] at hix
          gi_wp2_with fail
          refine ⟨trivial, fun h => absurd h (by decide), CallsIn.mono (isEmpty_in_yes Fence.wide _ trivial rfl _ 0 _ (cell_alloc_new wr #[.nilIface, .string e0] 57 0 .nilIface rfl) (cell_alloc_new wr #[.nilIface, .string e0] 57 1 (.string e0) rfl)) ?_⟩
          rintro e w2 ⟨rfl, rfl⟩
          gi_wp2_with (refine wpListIn_skip rfl rfl ?_)
          exact ⟨HSkip.out _ xs i wr _ hlt hxs hJx hkw hc, by simp [intOf]; omega⟩
        · rw [e1] at hix
          obtain ⟨fn, tmps, assign, body, hy, hR⟩ := HRound.out us hs _ HNc.out xs i wr t ub hlt hxs hJx hkw hc e1
          gi_wp2_with fail
          refine ⟨trivial, fun h => absurd h (by decide), CallsIn.mono (isEmpty_in_no Fence.wide _ trivial rfl _ 0 t ub _ (cell_alloc_new wr #[.iface t (ptr ub), .string (hs i)] 57 0 (.iface t (ptr ub)) rfl)) ?_⟩
          rintro e w2 ⟨rfl, rfl⟩
          gi_wp2_with fail
          first | refine ⟨fun h => absurd h (by decide), hR.mono ?_⟩ | refine hR.mono ?_
          rintro e W3 ⟨tf, rfl, (⟨rfl, hb3⟩ | ⟨rfl, hx3⟩)⟩
          · gi_wp2_with fail
            exact ⟨hb3, by simp [intOf]; omega⟩
          · gi_wp2
            first | go_end0 | refine bodyPost_ret (results_none rfl _ _ _) rfl ?_
            exact ⟨⟨_, rfl⟩, .inr hx3⟩
      · obtain rfl : i = 16 := by omega
        gi_wp2
        first | go_end0 | refine bodyPost_ret (results_none rfl _ _ _) rfl ?_
        exact ⟨⟨_, rfl⟩, .inl ⟨xs, hxs, hJx⟩⟩
  · have hne : x ≠ e0 := fun e => hx0 (by rw [e]; rfl)
    have hne2 : ¬ x.toList = [] := fun e => hne (e0_of_toList e)
    have hne3 : x.toList.isEmpty = false := empty_of_ne hne
    obtain ⟨fn, tmps, assign, body, hy, hR⟩ := HV.out hx0
    have c1 : W.cell? ⟨b, 32, none⟩ = some (.string x) := by obtain ⟨us, hs, h2, _⟩ := HAt.out W HKW.out; exact br_val h2
    refine callsIn_of_wp Tryz.func117 rfl trivial ?_ rfl
    simp only [Tryz.ntmps117, List.size_toArray, List.length_cons, List.length_nil, Nat.reduceAdd, Nat.reduceSub, Array.replicate_succ, Array.replicate_zero, List.push_toArray, List.append_toArray, List.nil_append, List.cons_append]
    gi_wp2_with fail
    first | refine ⟨fun h => absurd h (by decide), hR.mono ?_⟩ | refine hR.mono ?_
    rintro e W3 ⟨tf, rfl, (⟨rfl, hb3⟩ | ⟨rfl, hx3⟩)⟩
    · have c3 : W3.cell? ⟨bx, 0, none⟩ = some (.pointer (some ⟨b, 0, none⟩)) := cell_of_row W3 _ 0 _ _ (0, 0) (HBx.out W3 (HKW.out.trans hb3.2))
      obtain ⟨us, hs, h2, hNc, hus⟩ := HAt.out W3 (HKW.out.trans hb3.2)
      have HNc := hide hNc
      clear hNc
      have hsz := sizeRefs us hs
      have hidx := fun w i hi => run_refs w us hs i hi
      have hrg0 : World.rangeAt W3 b 0 (brRefs us hs) := brRefs_at h2
      generalize brRefs us hs = R at *
      gi_wp2_with (first
        | (refine wpListIn_load_mid rfl 190 (.tmp 22) rfl b 0 rfl R _ hrg0 Tryz.underlying190 rfl hsz ?_)
        | (refine wpListIn_skip rfl rfl ?_))
      gi_loopw [24] (BrC ok c x J W3) (fun iv _ => 16 - (intOf iv).toNat)
      case atStart => exact hb3.1
      case round =>
        obtain ⟨i, xs, hi, rfl, hxs, hJx, hkw⟩ := hrel
        by_cases hlt : i < 16
        · have hix := hidx wr i hlt
          rcases hus i hlt with ⟨hc, e1, e2⟩ | ⟨hc, t, ub, e1⟩
          · rw [e1, e2] at hix
            gi_wp2_with fail
            refine ⟨trivial, fun h => absurd h (by decide), CallsIn.mono (isEmpty_in_yes Fence.wide _ trivial rfl _ 0 _ (cell_alloc_new wr #[.nilIface, .string e0] 57 0 .nilIface rfl) (cell_alloc_new wr #[.nilIface, .string e0] 57 1 (.string e0) rfl)) ?_⟩
            rintro e w2 ⟨rfl, rfl⟩
            gi_wp2_with (refine wpListIn_skip rfl rfl ?_)
            exact ⟨HSkip.out _ xs i wr _ hlt hxs hJx hkw hc, by simp [intOf]; omega⟩
          · rw [e1] at hix
            obtain ⟨fn, tmps, assign, body, hy, hR⟩ := HRound.out us hs _ HNc.out xs i wr t ub hlt hxs hJx hkw hc e1
            gi_wp2_with fail
            refine ⟨trivial, fun h => absurd h (by decide), CallsIn.mono (isEmpty_in_no Fence.wide _ trivial rfl _ 0 t ub _ (cell_alloc_new wr #[.iface t (ptr ub), .string (hs i)] 57 0 (.iface t (ptr ub)) rfl)) ?_⟩
            rintro e w2 ⟨rfl, rfl⟩
            gi_wp2_with fail
            first | refine ⟨fun h => absurd h (by decide), hR.mono ?_⟩ | refine hR.mono ?_
            rintro e W3 ⟨tf, rfl, (⟨rfl, hb3⟩ | ⟨rfl, hx3⟩)⟩
            · gi_wp2_with fail
              exact ⟨hb3, by simp [intOf]; omega⟩
            · gi_wp2
              first | go_end0 | refine bodyPost_ret (results_none rfl _ _ _) rfl ?_
              exact ⟨⟨_, rfl⟩, .inr hx3⟩
        · obtain rfl : i = 16 := by omega
          gi_wp2
          first | go_end0 | refine bodyPost_ret (results_none rfl _ _ _) rfl ?_
          exact ⟨⟨_, rfl⟩, .inl ⟨xs, hxs, hJx⟩⟩
    · gi_wp2
      first | go_end0 | refine bodyPost_ret (results_none rfl _ _ _) rfl ?_
      exact ⟨⟨_, rfl⟩, .inr hx3⟩
end Go.Proofs.YtgepjjebjhidiaaGreatDoor
namespace Go.Proofs.YtgepjjebjhidiaaGreatDoor
open Go.RowKit Go.Shelf

theorem nodes_made (u : Value) (g : ByteArray) (hu : isNd u) (w : World) : Calls Tryz.prog 40 #[.agg #[u, .string g]] w fun e w' =>
    e = .returned (.func (.func 57) #[] #[.pointer (some ⟨w.heap.size, 0, none⟩)]) ∧ w' = w.alloc (.cells #[u, .string g] 57) := by
  rcases hu with rfl | ⟨t, b, rfl⟩
  all_goals
    try unfold ptr
    go_enter Tryz.func40, Tryz.ntmps40
    go_wp2
    go_ret
    exact ⟨rfl, rfl⟩
/-- a node's parts, of whichever kind -/
theorem node_parts_C (ok : Nat → Prop) (n : Nd) (W : World) (u : Value) (hw : n.WF) (hn : NdAt HkC ok W n u) (hnn : n ≠ .nil) :
    ∃ t b fid gf, ∃ tt : TypeId, u = .iface t (ptr b) ∧ (tt ≠ 189 ∧ tt ≠ 192 ∧ tt ≠ 48 ∧ tt ≠ 43) ∧ (∀ w, (method 336 t (ptr b) "canopy/tree.parts").run Tryz.prog w = .ok (fid, ptr b) w) ∧ (∀ args w, (callFunc fid args).run Tryz.prog w = .ok (.enter fid args) w) ∧ (∀ args w, (callFunc gf args).run Tryz.prog w = .ok (.enter gf args) w) ∧
      (∀ w, Calls Tryz.prog fid #[ptr b] w fun e w' => e = .returned (.func (.func gf) #[] #[.pointer (some ⟨w.heap.size, 0, none⟩)]) ∧ w' = w.alloc (.cells #[ptr b] tt)) ∧
      (∀ W' bx, W'.heap[bx]? = some (.cells #[ptr b] tt (0, 0)) → NdAt HkC ok W' n (.iface t (ptr b)) → TellsPartsC ok n gf #[.pointer (some ⟨bx, 0, none⟩)] W') := by
  cases n with
  | nil => exact absurd rfl hnn
  | leaf p x =>
    obtain ⟨b, _, _, e, _⟩ := id hn
    exact ⟨_, b, _, _, _, e, ⟨by decide, by decide, by decide, by decide⟩, meth_pa_leaf b, fun _ _ => by kernel_rfl, fun _ _ => by kernel_rfl, leafParts_made b, fun W' bx h1 h2 => leafParts_C ok bx b p x W' h1 h2⟩
  | ext p m =>
    obtain ⟨b, _, _, _, _, e, _⟩ := id hn
    exact ⟨_, b, _, _, _, e, ⟨by decide, by decide, by decide, by decide⟩, meth_pa_ext b, fun _ _ => by kernel_rfl, fun _ _ => by kernel_rfl, extParts_made b, fun W' bx h1 h2 => extParts_C ok bx b p m W' h1 h2 (fun e => by
      have := hw.2.2.1
      rw [e] at this
      simp [Nd.isBr] at this)⟩
  | br c x =>
    obtain ⟨b, _, _, e, _⟩ := id hn
    exact ⟨_, b, _, _, _, e, ⟨by decide, by decide, by decide, by decide⟩, meth_pa_br b, fun _ _ => by kernel_rfl, fun _ _ => by kernel_rfl, brParts_made b, fun W' bx h1 h2 => brParts_C ok bx b c x W' h1 h2⟩
/-- the nodes of a tree are told, wherever it lies -/
def NodesOk (ok : Nat → Prop) (n : Nd) : Prop :=
  ∀ (bA : Nat) (u : Value) (g : ByteArray) (W0 : World), n.WF → W0.heap[bA]? = some (.cells #[u, .string g] 57 (0, 0)) → NdAt HkC ok W0 n u →
    TellsNodes ok n u 57 #[.pointer (some ⟨bA, 0, none⟩)] W0
end Go.Proofs.YtgepjjebjhidiaaGreatDoor
