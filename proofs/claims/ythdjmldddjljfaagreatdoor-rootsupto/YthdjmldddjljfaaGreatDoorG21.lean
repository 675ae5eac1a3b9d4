/-
  OUR OWN: TwH TwI TwJ.
-/
import Derived.Test.YthdjmldddjljfaaGreatDoorG20
namespace Go.Proofs.YthdjmldddjljfaaGreatDoor
open Go.RowKit
attribute [local go_sem ↓] Go.wp_at_zero Go.wp_at_succ

theorem four_set {w : World} {R : Nat} {T : TypeId} {a b c d : Value} (h : w.heap[R]? = some (.cells #[a, b, c, d] T (0, 0))) (x y z u : Value) : ((((w.setCell ⟨R, 0, none⟩ x).setCell ⟨R, 1, none⟩ y).setCell ⟨R, 2, none⟩ z).setCell ⟨R, 3, none⟩ u).heap[R]? = some (.cells #[x, y, z, u] T (0, 0)) := by
  have h1 := heap_setCell_same w R 0 _ T x h
  have h2 := heap_setCell_same _ R 1 _ T y h1
  have h3 := heap_setCell_same _ R 2 _ T z h2
  have h4 := heap_setCell_same _ R 3 _ T u h3
  exact h4
theorem below_four {B : Nat} {a w : World} (h : Below B a w) {R : Nat} (hR : B ≤ R) (x y z u : Value) : Below B a ((((w.setCell ⟨R, 0, none⟩ x).setCell ⟨R, 1, none⟩ y).setCell ⟨R, 2, none⟩ z).setCell ⟨R, 3, none⟩ u) := (((h.setCell (p := ⟨R, 0, none⟩) hR x).setCell (p := ⟨R, 1, none⟩) hR y).setCell (p := ⟨R, 2, none⟩) hR z).setCell (p := ⟨R, 3, none⟩) hR u

set_option maxHeartbeats 4000000 in
set_option maxRecDepth 20000 in
theorem extUnder_any (b : Nat) (ao : Option Addr) (len cap : Nat) (t : TypeId) (ub : Nat) (h : ByteArray) (dp : Nat) (w : World) (hb : w.heap[b]? = some (.cells #[.slice ao len cap, .iface t (ptr ub), .string h] 282 (0, 0))) (hd : dp ≤ 10000) (hl : len ≤ 10000) :
    Calls Tryz.prog 235 #[ptr b, .int .i64 (dp : Int)] w fun e w' => e = .returned (.agg #[.iface t (ptr ub), .string h, .iface 250 (ptr b), .int .i64 ((dp + len : Nat) : Int)]) ∧ Below w.heap.size w w' := by
  have hbl := (Array.getElem?_eq_some_iff.1 hb).1
  have hB0 : Below w.heap.size w (w.alloc (.cells #[.nilIface, .string ⟨#[]⟩, .nilIface, .int .i64 0] 110)) := below_alloc _ _
  have hbn := (hB0.block b hbl).trans hb
  have c0 : (w.alloc (.cells #[.nilIface, .string ⟨#[]⟩, .nilIface, .int .i64 0] 110)).cell? ⟨b, 0, none⟩ = some (.slice ao len cap) := cell_of_row _ b 0 _ _ (0, 0) hbn
  have c1 : (w.alloc (.cells #[.nilIface, .string ⟨#[]⟩, .nilIface, .int .i64 0] 110)).cell? ⟨b, 1, none⟩ = some (.iface t (ptr ub)) := cell_of_row _ b 1 _ _ (0, 0) hbn
  have c2 : (w.alloc (.cells #[.nilIface, .string ⟨#[]⟩, .nilIface, .int .i64 0] 110)).cell? ⟨b, 2, none⟩ = some (.string h) := cell_of_row _ b 2 _ _ (0, 0) hbn
  have HR := hide (heap_alloc_new w (.cells #[.nilIface, .string ⟨#[]⟩, .nilIface, .int .i64 0] 110))
  have k1 : IntKind.i64.wrap ((dp : Int) + (len : Int)) = (dp : Int) + (len : Int) := by rw [IntKind.wrap_i64]; omega
  have z0 : (w.alloc (.cells #[.nilIface, .string ⟨#[]⟩, .nilIface, .int .i64 0] 110)).cell? ⟨w.heap.size, 0, none⟩ = some .nilIface := cell_of_row _ _ 0 _ _ (0, 0) HR.out
  have z1 : (w.alloc (.cells #[.nilIface, .string ⟨#[]⟩, .nilIface, .int .i64 0] 110)).cell? ⟨w.heap.size, 1, none⟩ = some (.string ⟨#[]⟩) := cell_of_row _ _ 1 _ _ (0, 0) HR.out
  have z2 : (w.alloc (.cells #[.nilIface, .string ⟨#[]⟩, .nilIface, .int .i64 0] 110)).cell? ⟨w.heap.size, 2, none⟩ = some .nilIface := cell_of_row _ _ 2 _ _ (0, 0) HR.out
  have z3 : (w.alloc (.cells #[.nilIface, .string ⟨#[]⟩, .nilIface, .int .i64 0] 110)).cell? ⟨w.heap.size, 3, none⟩ = some (.int .i64 0) := cell_of_row _ _ 3 _ _ (0, 0) HR.out
  have HB := hide hB0
  clear hb hbn hB0
  unfold ptr at *
  go_enter Tryz.func235, Tryz.ntmps235
  go_wp2_with fail
  go_region
  all_goals go_wp2
  all_goals
    have hfin := heap_alloc_new w (.cells #[.iface t (.pointer (some ⟨ub, 0, none⟩)), .string h, .iface 250 (.pointer (some ⟨b, 0, none⟩)), .int .i64 ((dp : Int) + (len : Int))] 110)
    refine bodyPost_ret (v := .agg #[.iface t (.pointer (some ⟨ub, 0, none⟩)), .string h, .iface 250 (.pointer (some ⟨b, 0, none⟩)), .int .i64 ((dp : Int) + (len : Int))]) (by simp [results, Tryz.results235, go_sem]) rfl ?_
    exact ⟨by rw [Int.natCast_add], (below_alloc _ _).drew⟩

/-- what comes out of behind -/
def BePost (Hk : Nd → ByteArray → Prop) (ok : Nat → Prop) (n : Nd) (w : World) (e : Ending) (w' : World) : Prop := ∃ v' h', e = .returned (.agg #[v', .string h']) ∧ NdAt Hk (fun k => ok k ∨ w.heap.size ≤ k) w' n v' ∧ (h' = e0 ∨ Hk n h') ∧ Below w.heap.size w w'

set_option maxHeartbeats 4000000 in
set_option maxRecDepth 20000 in
theorem behind_any (Hk : Nd → ByteArray → Prop) (ok : Nat → Prop) (b : Nat) (q : List Nat) (m : Nd) (n : Nat) (w : World) (hn : NdAt Hk ok w (.ext q m) (.iface 250 (ptr b))) (hok : ∀ k, ok k → k < w.heap.size) (hm : m ≠ .nil) (hnl : n ≤ q.length) (hql : q.length ≤ 400) :
    Calls Tryz.prog 236 #[ptr b, .int .i64 (n : Int)] w fun e w' => BePost Hk ok (behind q m n) w e w' := by
  obtain ⟨b', bo, bc, u, h, hb', o1, o2, hb, hq, hb0, hbc, hmn, hmh⟩ := hn
  obtain rfl : b = b' := by simpa [ptr] using hb'
  obtain ⟨t, ub, rfl⟩ := hmn.some hm
  have hbl := (Array.getElem?_eq_some_iff.1 hb).1
  have hcell : ∀ W, Below w.heap.size w W → W.cell? ⟨b, 0, none⟩ = some (.slice bo q.length bc) ∧ W.cell? ⟨b, 1, none⟩ = some (.iface t (ptr ub)) ∧ W.cell? ⟨b, 2, none⟩ = some (.string h) := fun W hW =>
    ⟨(hW.cell (p := ⟨b, 0, none⟩) hbl).trans (cell_of_row w b 0 _ _ (0, 0) hb), (hW.cell (p := ⟨b, 1, none⟩) hbl).trans (cell_of_row w b 1 _ _ (0, 0) hb), (hW.cell (p := ⟨b, 2, none⟩) hbl).trans (cell_of_row w b 2 _ _ (0, 0) hb)⟩
  have HC := hide hcell
  obtain ⟨c0, c1, c2⟩ := hcell _ (below_alloc w (.cells #[.nilIface, .string ⟨#[]⟩] 65))
  have HM := hide (And.intro hmn hmh)
  have HOK := hide hok
  clear hok
  by_cases hne : n = q.length
  · have HP : Hid (behind q m n = m) := by show _ = _; simp [behind, hne]
    have e1 : ((n : Int) == (q.length : Int)) = true := by simp; omega
    clear hcell hb hq hb0 hbc hmn hmh
    unfold ptr at *
    go_enter Tryz.func236, Tryz.ntmps236
    go_wp2
    refine bodyPost_ret (v := .agg #[.iface t (.pointer (some ⟨ub, 0, none⟩)), .string h]) (by simp [results, Tryz.results236, go_sem]) rfl ?_
    exact ⟨_, h, rfl, by rw [HP.out]; exact NdAt.mono (fun k hk => .inl hk) _ _ (HM.out.1.keep (below_alloc _ _)), by rw [HP.out]; exact HM.out.2, below_alloc _ _⟩
  · have HP : Hid (behind q m n = .ext (q.drop n) m) := by show _ = _; simp [behind, hne]
    have e1 : ((n : Int) == (q.length : Int)) = false := by simp; omega
    have hlt : n < q.length := by omega
    rcases nums_form hq hb0 hbc with ⟨r1, r2, r3⟩ | ⟨gb, off, r1⟩
    · subst r2; simp at hlt
    · subst r1
      have n0 : (0 : Int) ≤ (n : Int) := by omega
      have n1 : (n : Int) ≤ (q.length : Int) := by omega
      have n2 : (q.length : Int) ≤ (bc : Int) := by omega
      have n3 : ¬ bc = n := by omega
      have n4 : (n : Int) < (bc : Int) := by omega
      have HCL : Hid (Calls Tryz.prog 112 #[.slice (some ⟨gb, off + n, none⟩) (q.length - n) (bc - n)] (w.alloc (.cells #[.nilIface, .string ⟨#[]⟩] 65)).drew fun e w1 => (∃ ao cap, e = .returned (.slice ao (q.length - n) cap) ∧ PathIn (fun k => w.heap.size + 1 ≤ k) ao (q.drop n) ∧ Nums w1 ao (q.drop n) ∧ (ao = none → cap = 0) ∧ q.length - n ≤ cap ∧ Below w.heap.size w w1) ∧ w1.heap[w.heap.size]? = some (.cells #[.nilIface, .string ⟨#[]⟩] 65 (0, 0))) := by
        have hB0 : Below w.heap.size w (w.alloc (.cells #[.nilIface, .string ⟨#[]⟩] 65)).drew := (below_alloc _ _).drew
        have hh := cloneI_any (some ⟨gb, off + n, none⟩) (bc - n) (q.drop n) (w.alloc (.cells #[.nilIface, .string ⟨#[]⟩] 65)).drew ((hq.keep hB0 (Nat.le_refl _)).drop n) (fun h => by cases h) (by rw [List.length_drop]; omega) (by rw [List.length_drop]; omega)
        rw [List.length_drop] at hh
        refine hh.mono ?_
        rintro e w1 ⟨a1, k1, rfl, hi1, hn1, hz1, hk1, hb1⟩
        have hs := hB0.size
        have hs1 : (w.alloc (.cells #[.nilIface, .string ⟨#[]⟩] 65)).drew.heap.size = w.heap.size + 1 := by show (w.alloc _).heap.size = _; simp
        exact ⟨⟨a1, k1, by rw [List.length_drop], fun a e hne => by have := hi1 a e hne; rw [hs1] at this; exact this, hn1, hz1, by rw [List.length_drop] at hk1; exact hk1, hB0.trans (hb1.mono hs)⟩, (hb1.block w.heap.size (by show _ < (w.alloc _).heap.size; simp)).trans (heap_alloc_new w _)⟩
      clear hcell hb hq hb0 hbc hmn hmh
      unfold ptr at *
      go_enter Tryz.func236, Tryz.ntmps236
      go_wp2_with fail
      go_region_with ((go_at_call 112; refine HCL.out.mono ?_; rintro e w1 ⟨⟨a1, k1, rfl, hi1, hn1, hz1, hk1, hb1⟩, hr1⟩; obtain ⟨d0, d1, d2⟩ := HC.out w1 hb1; have hra : ∀ o, (w1.alloc o).heap[w.heap.size]? = some (.cells #[.nilIface, .string ⟨#[]⟩] 65 (0, 0)) := fun o => (Below.heap_alloc _ _ _ (Array.getElem?_eq_some_iff.1 hr1).1).trans hr1; have y0 : ∀ o, (w1.alloc o).cell? ⟨w.heap.size, 0, none⟩ = some .nilIface := fun o => cell_of_row _ _ 0 _ _ (0, 0) (hra o); have y1 : ∀ o, (w1.alloc o).cell? ⟨w.heap.size, 1, none⟩ = some (.string ⟨#[]⟩) := fun o => cell_of_row _ _ 1 _ _ (0, 0) (hra o); have f0 : ∀ o, (w1.alloc o).frozen? ⟨w.heap.size, 0, none⟩ = false := fun o => frozen_of_row _ w.heap.size 0 _ _ (hra o); have f1 : ∀ o, (w1.alloc o).frozen? ⟨w.heap.size, 1, none⟩ = false := fun o => frozen_of_row _ w.heap.size 1 _ _ (hra o); clear hra; have HX1 := hide (And.intro hi1 (And.intro hn1 (And.intro hz1 (And.intro hk1 (And.intro hb1 hr1))))); clear hi1 hn1 hz1 hk1 hb1 hr1))
      all_goals go_wp2
      all_goals
        have hb1 := HX1.out.2.2.2.2.1
        have hr1 := HX1.out.2.2.2.2.2
        have hra := (Below.heap_alloc w1 (.cells #[.slice a1 (q.length - n) k1, .iface t (.pointer (some ⟨ub, 0, none⟩)), .string h] 282) w.heap.size (Array.getElem?_eq_some_iff.1 hr1).1).trans hr1
        have hfin := two_set hra (.iface 250 (.pointer (some ⟨w1.heap.size, 0, none⟩))) (.string e0)
        have r0 := cell_of_row _ _ 0 _ _ (0, 0) hfin
        have r1 := cell_of_row _ _ 1 _ _ (0, 0) hfin
        refine bodyPost_ret (v := .agg #[.iface 250 (.pointer (some ⟨w1.heap.size, 0, none⟩)), .string e0]) (by simp [results, Tryz.results236, go_sem, r0, r1]) rfl ?_
        have hlt1 := (Array.getElem?_eq_some_iff.1 hr1).1
        have hbx : Below w.heap.size w (w1.alloc (.cells #[.slice a1 (q.length - n) k1, .iface t (.pointer (some ⟨ub, 0, none⟩)), .string h] 282)) := hb1.alloc hb1.size _
        have hnd : NdAt Hk (fun k => k ≠ w.heap.size ∧ (ok k ∨ w.heap.size ≤ k)) (w1.alloc (.cells #[.slice a1 (q.length - n) k1, .iface t (.pointer (some ⟨ub, 0, none⟩)), .string h] 282)) (.ext (q.drop n) m) (.iface 250 (ptr w1.heap.size)) :=
          ⟨w1.heap.size, a1, k1, _, h, rfl, ⟨by omega, .inr hb1.size⟩, fun a e hne => by have := HX1.out.1 a e hne; exact ⟨by omega, .inr (by omega)⟩, by rw [List.length_drop]; exact heap_alloc_new w1 _, HX1.out.2.1.keep (below_alloc w1 _) (Nat.le_refl _), HX1.out.2.2.1, by rw [List.length_drop]; exact HX1.out.2.2.2.1, NdAt.mono (fun k hk => ⟨by have := HOK.out k hk; omega, .inl hk⟩) _ _ (HM.out.1.keep hbx), HM.out.2⟩
        exact ⟨_, e0, rfl, by rw [HP.out]; exact NdAt.mono (fun k hk => hk.2) _ _ (NdAt.keepIn (fun k hk _ => two_other hk.1 _ _) _ _ hnd), .inl rfl, below_two hbx (Nat.le_refl _) _ _⟩
end Go.Proofs.YthdjmldddjljfaaGreatDoor
namespace Go.Proofs.YthdjmldddjljfaaGreatDoor
open Go.RowKit
attribute [local go_sem ↓] Go.wp_at_zero Go.wp_at_succ

/-- a store's put at a node -/
def SPutOk (Hk : Nd → ByteArray → Prop) (L : Nat) (m : Nd) : Prop := ∀ (ok : Nat → Prop) (u : Value) (h : ByteArray) (st ab : Value) (dp gp op cap : Nat) (p : List Nat) (y : ByteArray) (w : World), (∀ k, ok k → k < w.heap.size) → NdAt Hk ok w m u → (h = e0 ∨ m ≠ .nil) → Nums w (some ⟨gp, op, none⟩) p → p.length ≤ cap → p.length ≤ L → dp + L ≤ 10000 → (∀ i ∈ p, i < 16) →
  Calls Tryz.prog 45 #[st, .agg #[u, .string h, ab, .int .i64 (dp : Int)], .slice (some ⟨gp, op, none⟩) p.length cap, .string y] w fun e w' => RefPost Hk ok (m.put p y) w e w'

/-- what a store's put has told, in a box -/
structure PutBox (Hk : Nd → ByteArray → Prop) (ok : Nat → Prop) (n : Nd) (w X : World) (R : Nat) (v : Value) : Prop where
  bel : Below w.heap.size w X
  box : X.heap[R]? = some (.cells #[v, .string e0] 65 (0, 0))
  node : NdAt Hk (fun k => ok k ∨ w.heap.size ≤ k) X n v
theorem PutBox.cells {Hk : Nd → ByteArray → Prop} {ok : Nat → Prop} {n : Nd} {w X : World} {R : Nat} {v : Value} (h : PutBox Hk ok n w X R v) : X.cell? ⟨R, 0, none⟩ = some v ∧ X.cell? ⟨R, 1, none⟩ = some (.string e0) := ⟨cell_of_row X R 0 _ _ (0, 0) h.box, cell_of_row X R 1 _ _ (0, 0) h.box⟩
theorem PutBox.last {Hk : Nd → ByteArray → Prop} {ok : Nat → Prop} {n : Nd} {w W w4 : World} {v : Value} (hW : Below w.heap.size w W) (hn : NdAt Hk (fun k => ok k ∨ W.heap.size ≤ k) w4 n v) (hb : Below W.heap.size W w4) : PutBox Hk ok n w (w4.alloc (.cells #[v, .string e0] 65)) w4.heap.size v where
  bel := by
    have h := hW.trans (hb.mono hW.size)
    exact h.alloc h.size _
  box := heap_alloc_new w4 _
  node := NdAt.mono (fun k hk => hk.imp id (fun h => Nat.le_trans hW.size h)) _ _ (hn.keep (below_alloc _ _))
theorem PutBox.early {Hk : Nd → ByteArray → Prop} {ok : Nat → Prop} {n : Nd} {w W w4 : World} {v : Value} {R : Nat} {a c : Value} (hok : ∀ k, ok k → k < w.heap.size) (hW : Below w.heap.size w W) (hn : NdAt Hk (fun k => ok k ∨ W.heap.size ≤ k) w4 n v) (hb : Below W.heap.size W w4) (hR : w.heap.size ≤ R) (hRW : R < W.heap.size) (hbx : w4.heap[R]? = some (.cells #[a, c] 65 (0, 0))) : PutBox Hk ok n w ((w4.setCell ⟨R, 0, none⟩ v).setCell ⟨R, 1, none⟩ (.string e0)) R v where
  bel := below_two (hW.trans (hb.mono hW.size)) hR _ _
  box := two_set hbx _ _
  node := NdAt.mono (fun k hk => hk.imp id (fun h => Nat.le_trans hW.size h)) _ _ (NdAt.keepIn (fun k hk _ => two_other (by
    intro e
    subst e
    rcases hk with hk | hk
    · have := hok k hk; omega
    · omega) _ _) _ _ hn)

set_option maxHeartbeats 8000000 in
set_option maxRecDepth 20000 in
theorem extPut_in (Hk : Nd → ByteArray → Prop) (L : Nat) (ok : Nat → Prop) (b : Nat) (st : Value) (dp gp op cap : Nat) (p q : List Nat) (m : Nd) (y : ByteArray) (w : World) (hok : ∀ k, ok k → k < w.heap.size) (hn : NdAt Hk ok w (.ext q m) (.iface 250 (ptr b))) (hm : m ≠ .nil) (hp : Nums w (some ⟨gp, op, none⟩) p) (hc : p.length ≤ cap) (hpl : p.length ≤ L) (hL : L ≤ 400) (hqL : q.length ≤ L) (hd : dp + L ≤ 10000) (hp16 : ∀ i ∈ p, i < 16) (hsh : shared q p = q.length) (ih : SPutOk Hk (L - q.length) m) :
    Calls Tryz.prog 231 #[ptr b, st, .int .i64 (dp : Int), .slice (some ⟨gp, op, none⟩) p.length cap, .string y] w fun e w' => PutPost Hk ok ((Nd.ext q m).put p y) w e w' := by
  have HPT : Hid ((Nd.ext q m).put p y = .ext q (m.put (p.drop q.length) y)) := by show _ = _; simp [Nd.put, hsh]
  obtain ⟨b', bo, bc, u, h, hb', o1, o2, hb, hq, hb0, hbc, hmn, hmh⟩ := hn
  obtain rfl : b = b' := by simpa [ptr] using hb'
  obtain ⟨t, ub, rfl⟩ := hmn.some hm
  have hbl := (Array.getElem?_eq_some_iff.1 hb).1
  have hsr := shared_le_right q p
  rw [hsh] at hsr
  have hcell : ∀ W, Below w.heap.size w W → W.cell? ⟨b, 0, none⟩ = some (.slice bo q.length bc) := fun W hW => (hW.cell (p := ⟨b, 0, none⟩) hbl).trans (cell_of_row w b 0 _ _ (0, 0) hb)
  have HC := hide hcell
  have c0 := hcell w (Below.refl _ _)
  have HS : Hid (Calls Tryz.prog 214 #[.slice bo q.length bc, .slice (some ⟨gp, op, none⟩) p.length cap] w fun e w' => e = .returned (.int .i64 (q.length : Int)) ∧ Below w.heap.size w w') := by
    have h1 := sharedI_any bo (some ⟨gp, op, none⟩) bc cap q p w hq hp (by omega)
    rw [hsh] at h1
    exact h1
  have HU : Hid (∀ W, Below w.heap.size w W → Calls Tryz.prog 235 #[ptr b, .int .i64 (dp : Int)] W fun e w' => e = .returned (.agg #[.iface t (ptr ub), .string h, .iface 250 (ptr b), .int .i64 ((dp : Int) + (q.length : Int))]) ∧ Below W.heap.size W w') :=
    fun W hW => by
      have h1 := extUnder_any b bo q.length bc t ub h dp W ((hW.block b hbl).trans hb) (by omega) (by omega)
      rw [Int.natCast_add] at h1
      exact h1
  have hiw : ∀ (a l c : Nat) W, Below w.heap.size w W → Nums w (some ⟨gp, a, none⟩) (p.drop q.length) → l = p.length - q.length → l ≤ c → Calls Tryz.prog 45 #[st, .agg #[.iface t (ptr ub), .string h, .iface 250 (ptr b), .int .i64 ((dp : Int) + (q.length : Int))], .slice (some ⟨gp, a, none⟩) l c, .string y] W fun e w' => RefPost Hk ok (m.put (p.drop q.length) y) W e w' := by
    intro a l c W hW hnu hl hlc
    subst hl
    have h1 := ih ok (.iface t (ptr ub)) h st (.iface 250 (ptr b)) (dp + q.length) gp a c (p.drop q.length) y W (fun k hk => Nat.lt_of_lt_of_le (hok k hk) hW.size) (hmn.keep hW) (.inr hm) (hnu.keep hW (Nat.le_refl _)) (by rw [List.length_drop]; exact hlc) (by rw [List.length_drop]; omega) (by omega) (fun i hi => hp16 i (List.mem_of_mem_drop hi))
    rw [List.length_drop, Int.natCast_add] at h1
    exact h1
  have hgo : ∀ (X wf : World) (R : Nat) (v4 : Value), PutBox Hk ok (m.put (p.drop q.length) y) w X R v4 → Below X.heap.size X wf → ∀ E, X.heap.size ≤ E → wf.heap[E]? = some (.cells #[.slice bo q.length bc, v4, .string e0] 282 (0, 0)) → PutPost Hk ok ((Nd.ext q m).put p y) w (.returned (.tuple #[.iface 250 (ptr E), .int .i64 0])) wf := by
    intro X wf R v4 hg hbf E hE hext
    have hbb : Below w.heap.size w wf := hg.bel.trans (hbf.mono hg.bel.size)
    refine ⟨_, rfl, ?_, hbb⟩
    rw [HPT.out]
    exact ⟨E, bo, bc, v4, e0, rfl, .inr (Nat.le_trans hg.bel.size hE), fun a e hne => .inl (o2 a e hne), hext, hq.keep hbb (Nat.le_refl _), hb0, hbc, hg.node.keep hbf, .inl rfl⟩
  have HFI := hide hgo
  have qI1 : (q.length : Int) ≤ (p.length : Int) := by omega
  have pI1 : (p.length : Int) ≤ (cap : Int) := by omega
  have q0 : (0 : Int) ≤ (q.length : Int) := by omega
  by_cases hcq : cap = q.length
  · obtain rfl : q = p := by
      have h1 := shared_take q p
      rw [hsh, List.take_length, List.take_of_length_le (by omega)] at h1
      exact h1
    obtain rfl : cap = q.length := hcq
    have HI := hide (fun W hW => hiw op 0 0 W hW (by rw [List.drop_length]; exact Nums.nil (fun a e => by injection e with e; rw [← e])) (by omega) (by omega))
    have HOK := hide hok
    clear hiw hgo hcell hok hb hq hb0 hbc hmn hmh hp hsh ih
    unfold ptr at *
    go_enter Tryz.func231, Tryz.ntmps231
    go_wp2_with fail
    refine HS.out.mono ?_
    rintro e w1 ⟨rfl, hb1⟩
    have HB1 := hide hb1
    have d0 := HC.out w1 hb1
    clear hb1
    go_wp2_with fail
    go_region_with ((first
      | (go_at_call 235; refine (HU.out _ (by first | exact HB1.out.drew | exact (HB1.out.drew).alloc HB1.out.size _ | exact (HB1.out.alloc HB1.out.size _).drew)).mono ?_; rintro e w2 ⟨rfl, hb2⟩; have HB2 : Hid (Below w.heap.size w w2) := (by first | exact HB1.out.drew.trans (hb2.mono HB1.out.size) | exact ((HB1.out.alloc HB1.out.size _).drew).trans (hb2.mono (Nat.le_trans HB1.out.size (by show _ ≤ (World.alloc _ _).heap.size; simp)))); (first | (have hbx : w2.heap[w1.heap.size]? = some (.cells #[.nilIface, .string ⟨#[]⟩] 65 (0, 0)) := (hb2.block w1.heap.size (by show _ < (World.alloc _ _).heap.size; simp)).trans (heap_alloc_new w1 _)) | skip); clear hb2)
      | (go_at_call 45; refine (HI.out _ (by first | exact HB2.out | exact HB2.out.alloc HB2.out.size _)).mono ?_; rintro e w4 ⟨v4, rfl, hn4, hb4⟩; obtain ⟨t4, b4, rfl⟩ := hn4.some (put_ne m _ y); (first | (have hby : w4.heap[w2.heap.size]? = some (.cells #[.nilIface, .string ⟨#[]⟩] 65 (0, 0)) := (hb4.block w2.heap.size (by simp)).trans (heap_alloc_new w2 _); have y0 : w4.cell? ⟨w2.heap.size, 0, none⟩ = some .nilIface := cell_of_row w4 _ 0 _ _ (0, 0) hby; have y1 : w4.cell? ⟨w2.heap.size, 1, none⟩ = some (.string ⟨#[]⟩) := cell_of_row w4 _ 1 _ _ (0, 0) hby; have f0 := frozen_of_row w4 w2.heap.size 0 _ _ hby; have f1 := frozen_of_row w4 w2.heap.size 1 _ _ hby) | (have hby : w4.heap[w1.heap.size]? = some (.cells #[.nilIface, .string ⟨#[]⟩] 65 (0, 0)) := (hb4.block w1.heap.size (Array.getElem?_eq_some_iff.1 hbx).1).trans hbx; have y0 : w4.cell? ⟨w1.heap.size, 0, none⟩ = some .nilIface := cell_of_row w4 _ 0 _ _ (0, 0) hby; have y1 : w4.cell? ⟨w1.heap.size, 1, none⟩ = some (.string ⟨#[]⟩) := cell_of_row w4 _ 1 _ _ (0, 0) hby; have f0 := frozen_of_row w4 w1.heap.size 0 _ _ hby; have f1 := frozen_of_row w4 w1.heap.size 1 _ _ hby) | skip); have HX4 := hide (And.intro hn4 hb4); clear hn4 hb4)))
    all_goals first
      | (have HG := hide (PutBox.early HOK.out HB2.out HX4.out.1 HX4.out.2 HB1.out.size (Array.getElem?_eq_some_iff.1 hbx).1 hby); generalize World.setCell (World.setCell w4 _ _) _ _ = X at *; generalize w1.heap.size = R at *)
      | (have HG := hide (PutBox.early HOK.out (HB2.out.alloc HB2.out.size _) HX4.out.1 HX4.out.2 HB2.out.size (by simp) hby); generalize World.setCell (World.setCell w4 _ _) _ _ = X at *; generalize w2.heap.size = R at *)
      | (have HG := hide (PutBox.last HB2.out HX4.out.1 HX4.out.2); generalize World.alloc w4 _ = X at *; generalize w4.heap.size = R at *)
    all_goals
      obtain ⟨x0, x1⟩ := HG.out.cells
      have d1 := HC.out X HG.out.bel
      clear HX4
      go_wp2_with fail
      go_region
    all_goals go_wp2
    all_goals go_ret2
    all_goals exact HFI.out X _ R _ HG.out (by first | exact (below_alloc X _).drew | exact (drew_below X 1).alloc (Nat.le_refl _) _ | exact below_alloc X _) X.heap.size (Nat.le_refl _) (heap_alloc_new X _)
  · have HI := hide (fun W hW => hiw (op + q.length) (p.length - q.length) (cap - q.length) W hW (hp.drop q.length) rfl (by omega))
    have cI : (q.length : Int) < (cap : Int) := by omega
    have HOK := hide hok
    clear hiw hgo hcell hok hb hq hb0 hbc hmn hmh hp hsh ih
    unfold ptr at *
    go_enter Tryz.func231, Tryz.ntmps231
    go_wp2_with fail
    refine HS.out.mono ?_
    rintro e w1 ⟨rfl, hb1⟩
    have HB1 := hide hb1
    have d0 := HC.out w1 hb1
    clear hb1
    go_wp2_with fail
    go_region_with ((first
      | (go_at_call 235; refine (HU.out _ (by first | exact HB1.out.drew | exact (HB1.out.drew).alloc HB1.out.size _ | exact (HB1.out.alloc HB1.out.size _).drew)).mono ?_; rintro e w2 ⟨rfl, hb2⟩; have HB2 : Hid (Below w.heap.size w w2) := (by first | exact HB1.out.drew.trans (hb2.mono HB1.out.size) | exact ((HB1.out.alloc HB1.out.size _).drew).trans (hb2.mono (Nat.le_trans HB1.out.size (by show _ ≤ (World.alloc _ _).heap.size; simp)))); (first | (have hbx : w2.heap[w1.heap.size]? = some (.cells #[.nilIface, .string ⟨#[]⟩] 65 (0, 0)) := (hb2.block w1.heap.size (by show _ < (World.alloc _ _).heap.size; simp)).trans (heap_alloc_new w1 _)) | skip); clear hb2)
      | (go_at_call 45; refine (HI.out _ (by first | exact HB2.out | exact HB2.out.alloc HB2.out.size _)).mono ?_; rintro e w4 ⟨v4, rfl, hn4, hb4⟩; obtain ⟨t4, b4, rfl⟩ := hn4.some (put_ne m _ y); (first | (have hby : w4.heap[w2.heap.size]? = some (.cells #[.nilIface, .string ⟨#[]⟩] 65 (0, 0)) := (hb4.block w2.heap.size (by simp)).trans (heap_alloc_new w2 _); have y0 : w4.cell? ⟨w2.heap.size, 0, none⟩ = some .nilIface := cell_of_row w4 _ 0 _ _ (0, 0) hby; have y1 : w4.cell? ⟨w2.heap.size, 1, none⟩ = some (.string ⟨#[]⟩) := cell_of_row w4 _ 1 _ _ (0, 0) hby; have f0 := frozen_of_row w4 w2.heap.size 0 _ _ hby; have f1 := frozen_of_row w4 w2.heap.size 1 _ _ hby) | (have hby : w4.heap[w1.heap.size]? = some (.cells #[.nilIface, .string ⟨#[]⟩] 65 (0, 0)) := (hb4.block w1.heap.size (Array.getElem?_eq_some_iff.1 hbx).1).trans hbx; have y0 : w4.cell? ⟨w1.heap.size, 0, none⟩ = some .nilIface := cell_of_row w4 _ 0 _ _ (0, 0) hby; have y1 : w4.cell? ⟨w1.heap.size, 1, none⟩ = some (.string ⟨#[]⟩) := cell_of_row w4 _ 1 _ _ (0, 0) hby; have f0 := frozen_of_row w4 w1.heap.size 0 _ _ hby; have f1 := frozen_of_row w4 w1.heap.size 1 _ _ hby) | skip); have HX4 := hide (And.intro hn4 hb4); clear hn4 hb4)))
    all_goals first
      | (have HG := hide (PutBox.early HOK.out HB2.out HX4.out.1 HX4.out.2 HB1.out.size (Array.getElem?_eq_some_iff.1 hbx).1 hby); generalize World.setCell (World.setCell w4 _ _) _ _ = X at *; generalize w1.heap.size = R at *)
      | (have HG := hide (PutBox.early HOK.out (HB2.out.alloc HB2.out.size _) HX4.out.1 HX4.out.2 HB2.out.size (by simp) hby); generalize World.setCell (World.setCell w4 _ _) _ _ = X at *; generalize w2.heap.size = R at *)
      | (have HG := hide (PutBox.last HB2.out HX4.out.1 HX4.out.2); generalize World.alloc w4 _ = X at *; generalize w4.heap.size = R at *)
    all_goals
      obtain ⟨x0, x1⟩ := HG.out.cells
      have d1 := HC.out X HG.out.bel
      clear HX4
      go_wp2_with fail
      go_region
    all_goals go_wp2
    all_goals go_ret2
    all_goals exact HFI.out X _ R _ HG.out (by first | exact (below_alloc X _).drew | exact (drew_below X 1).alloc (Nat.le_refl _) _ | exact below_alloc X _) X.heap.size (Nat.le_refl _) (heap_alloc_new X _)
end Go.Proofs.YthdjmldddjljfaaGreatDoor
namespace Go.Proofs.YthdjmldddjljfaaGreatDoor
open Go.RowKit
attribute [local go_sem ↓] Go.wp_at_zero Go.wp_at_succ

theorem FkAt.setRef {Hk : Nd → ByteArray → Prop} {ok : Nat → Prop} {w : World} {bk : Nat} {c : Nat → Nd} {x : ByteArray} (h : FkAt Hk ok w bk c x) (hok : ¬ ok bk) (i : Nat) (hi : i < 16) (n : Nd) (v : Value) (g : ByteArray) (hn : NdAt Hk ok w n v) (hg : g = e0 ∨ (n ≠ .nil ∧ Hk n g)) : FkAt Hk ok ((w.setCell ⟨bk, i * 2, none⟩ v).setCell ⟨bk, i * 2 + 1, none⟩ (.string g)) bk (upd c i n) x := by
  obtain ⟨us, hs, hf, hc⟩ := h
  have hk : ∀ k, ok k → k < w.heap.size → ((w.setCell ⟨bk, i * 2, none⟩ v).setCell ⟨bk, i * 2 + 1, none⟩ (.string g)).heap[k]? = w.heap[k]? := fun k hk _ => by
    have hne : k ≠ bk := fun e => hok (by rw [← e]; exact hk)
    rw [Below.heap_setCell _ _ _ _ hne, Below.heap_setCell _ _ _ _ hne]
  refine ⟨updV us i v, updV hs i g, ⟨?_⟩, fun j hj => ?_⟩
  · have h1 := heap_setCell_same w bk (i * 2) _ 285 v hf.blk
    have h2 := heap_setCell_same _ bk (i * 2 + 1) _ 285 (.string g) h1
    rw [brCells_set us hs x i hi] at h2
    exact h2
  · unfold upd updV
    by_cases hji : j = i
    · rw [if_pos hji, if_pos hji, if_pos hji]
      exact ⟨NdAt.keepIn hk _ _ hn, hg⟩
    · rw [if_neg hji, if_neg hji, if_neg hji]
      exact ⟨NdAt.keepIn hk _ _ (hc j hj).1, (hc j hj).2⟩
theorem FkAt.mono {Hk : Nd → ByteArray → Prop} {ok ok' : Nat → Prop} {w : World} {bk : Nat} {c : Nat → Nd} {x : ByteArray} (h : FkAt Hk ok w bk c x) (hk : ∀ k, ok k → ok' k) : FkAt Hk ok' w bk c x := by
  obtain ⟨us, hs, hf, hc⟩ := h
  exact ⟨us, hs, hf, fun i hi => ⟨NdAt.mono hk _ _ (hc i hi).1, (hc i hi).2⟩⟩
theorem below_ref {B : Nat} {a w : World} (h : Below B a w) {R : Nat} (hR : B ≤ R) (i j : Nat) (v u : Value) : Below B a ((w.setCell ⟨R, i, none⟩ v).setCell ⟨R, j, none⟩ u) := (h.setCell (p := ⟨R, i, none⟩) hR v).setCell (p := ⟨R, j, none⟩) hR u
theorem FkAt.refCell {Hk : Nd → ByteArray → Prop} {ok : Nat → Prop} {w : World} {bk : Nat} {c : Nat → Nd} {x : ByteArray} (h : FkAt Hk ok w bk c x) (i : Nat) (hi : i < 16) : (∃ a, w.cell? ⟨bk, i * 2, none⟩ = some a) ∧ (∃ a, w.cell? ⟨bk, i * 2 + 1, none⟩ = some a) ∧ w.frozen? ⟨bk, i * 2, none⟩ = false ∧ w.frozen? ⟨bk, i * 2 + 1, none⟩ = false := by
  obtain ⟨us, hs, hf, hc⟩ := h
  exact ⟨⟨_, (br_ref hf.blk i hi).1⟩, ⟨_, (br_ref hf.blk i hi).2⟩, frozen_of_row w bk _ _ _ hf.blk, frozen_of_row w bk _ _ _ hf.blk⟩

set_option maxHeartbeats 8000000 in
set_option maxRecDepth 20000 in
theorem extPut_fork (Hk : Nd → ByteArray → Prop) (hnn : ∀ n g, Hk n g → n ≠ .nil) (ok : Nat → Prop) (b : Nat) (st : Value) (dp gp op cap : Nat) (p q : List Nat) (m : Nd) (y : ByteArray) (w : World) (hok : ∀ k, ok k → k < w.heap.size) (hn : NdAt Hk ok w (.ext q m) (.iface 250 (ptr b))) (hm : m ≠ .nil) (hp : Nums w (some ⟨gp, op, none⟩) p) (hc : p.length ≤ cap) (hpl : p.length ≤ 400) (hql : q.length ≤ 400) (hp16 : ∀ i ∈ p, i < 16) (hq16 : ∀ i ∈ q, i < 16) (hsh : shared q p < q.length) :
    Calls Tryz.prog 231 #[ptr b, st, .int .i64 (dp : Int), .slice (some ⟨gp, op, none⟩) p.length cap, .string y] w fun e w' => PutPost Hk ok ((Nd.ext q m).put p y) w e w' := by
  have HPT : Hid ((Nd.ext q m).put p y = ((Nd.br (upd (fun _ => .nil) (q.getD (shared q p) 0) (behind q m (shared q p + 1))) e0).hang (p.drop (shared q p)) y).ahead (p.take (shared q p))) := by
    show _ = _
    simp only [Nd.put]
    rw [if_neg (by omega)]
  have HN := hide hn
  obtain ⟨b', bo, bc, u, h, hb', o1, o2, hb, hq, hb0, hbc, hmn, hmh⟩ := hn
  obtain rfl : b = b' := by simpa [ptr] using hb'
  have hbl := (Array.getElem?_eq_some_iff.1 hb).1
  have hsr := shared_le_right q p
  have HS : Hid (Calls Tryz.prog 214 #[.slice bo q.length bc, .slice (some ⟨gp, op, none⟩) p.length cap] w fun e w' => e = .returned (.int .i64 (shared q p : Int)) ∧ Below w.heap.size w w') := sharedI_any bo (some ⟨gp, op, none⟩) bc cap q p w hq hp (by omega)
  have hi16 : q.getD (shared q p) 0 < 16 := by
    have e : q.getD (shared q p) 0 = q[shared q p] := by simp [List.getD_eq_getElem?_getD, hsh]
    rw [e]; exact hq16 _ (List.getElem_mem hsh)
  obtain ⟨gb, off, hbo, hqc⟩ := hq.at' (shared q p) hsh
  subst hbo
  have hqbl := World.block_lt_of_cell? w _ hqc
  obtain ⟨n, hn⟩ : ∃ n, Hid (shared q p = n) := ⟨_, Eq.refl _⟩
  rw [hn.out] at HS HPT hsh hsr hi16 hqc
  obtain ⟨i, hi⟩ : ∃ i, Hid (q.getD n 0 = i) := ⟨_, Eq.refl _⟩
  rw [hi.out] at HPT hi16 hqc
  have hcell : ∀ W, Below w.heap.size w W → W.cell? ⟨b, 0, none⟩ = some (.slice (some ⟨gb, off, none⟩) q.length bc) ∧ W.cell? ⟨gb, off + n, none⟩ = some (.int .i64 (i : Int)) := fun W hW =>
    ⟨(hW.cell (p := ⟨b, 0, none⟩) hbl).trans (cell_of_row w b 0 _ _ (0, 0) hb), (hW.cell (p := ⟨gb, off + n, none⟩) hqbl).trans hqc⟩
  have HC := hide hcell
  obtain ⟨c0, c1⟩ := hcell w (Below.refl _ _)
  have HP := hide hp
  have HOK := hide hok
  have n0 : (0 : Int) ≤ (n : Int) := by omega
  have n1 : (n : Int) < (q.length : Int) := by omega
  have n2 : (n : Int) ≤ (p.length : Int) := by omega
  have n3 : (p.length : Int) ≤ (cap : Int) := by omega
  have n4 : ((n : Int) == (q.length : Int)) = false := by simp; omega
  have n5 : (q.length : Int) ≤ 400 := by omega
  have k1 : IntKind.i64.wrap ((n : Int) + 1) = (n : Int) + 1 := by rw [IntKind.wrap_i64]; omega
  have i0 : (0 : Int) ≤ (i : Int) := by omega
  have i1 : (i : Int) < 16 := by omega
  clear hcell hb hq hqc hp hmh hmn hok
  unfold ptr at *
  go_enter Tryz.func231, Tryz.ntmps231
  go_wp2_with fail
  refine HS.out.mono ?_
  rintro e w1 ⟨rfl, hb1⟩
  have HB1 := hide hb1
  obtain ⟨d0, d1⟩ := HC.out w1 hb1
  clear hb1 c0 c1
  go_wp2_with fail
  have HF3 : Hid (FkAt Hk (fun _ => False) (w1.alloc (.cells #[.nilIface, .string ⟨#[]⟩, .nilIface, .string ⟨#[]⟩, .nilIface, .string ⟨#[]⟩, .nilIface, .string ⟨#[]⟩, .nilIface, .string ⟨#[]⟩, .nilIface, .string ⟨#[]⟩, .nilIface, .string ⟨#[]⟩, .nilIface, .string ⟨#[]⟩, .nilIface, .string ⟨#[]⟩, .nilIface, .string ⟨#[]⟩, .nilIface, .string ⟨#[]⟩, .nilIface, .string ⟨#[]⟩, .nilIface, .string ⟨#[]⟩, .nilIface, .string ⟨#[]⟩, .nilIface, .string ⟨#[]⟩, .nilIface, .string ⟨#[]⟩, .string ⟨#[]⟩] 285)) w1.heap.size (fun _ => .nil) e0) := FkAt.new Hk w1
  have HB3 : Hid (Below w.heap.size w (w1.alloc (.cells #[.nilIface, .string ⟨#[]⟩, .nilIface, .string ⟨#[]⟩, .nilIface, .string ⟨#[]⟩, .nilIface, .string ⟨#[]⟩, .nilIface, .string ⟨#[]⟩, .nilIface, .string ⟨#[]⟩, .nilIface, .string ⟨#[]⟩, .nilIface, .string ⟨#[]⟩, .nilIface, .string ⟨#[]⟩, .nilIface, .string ⟨#[]⟩, .nilIface, .string ⟨#[]⟩, .nilIface, .string ⟨#[]⟩, .nilIface, .string ⟨#[]⟩, .nilIface, .string ⟨#[]⟩, .nilIface, .string ⟨#[]⟩, .nilIface, .string ⟨#[]⟩, .string ⟨#[]⟩] 285))) := HB1.out.alloc HB1.out.size _
  have HBK : Hid (w.heap.size ≤ w1.heap.size) := HB1.out.size
  clear HB1 HS d0 d1
  generalize World.alloc w1 _ = W3 at *
  generalize w1.heap.size = bk at *
  obtain ⟨f0, f1⟩ := HC.out W3 HB3.out
  have HBe : Hid (Calls Tryz.prog 236 #[.pointer (some ⟨b, 0, none⟩), .int .i64 ((n : Int) + 1)] W3.drew fun e w4 => ∃ t4 b4 h4, e = .returned (.agg #[.iface t4 (.pointer (some ⟨b4, 0, none⟩)), .string h4]) ∧ W3.heap.size ≤ w4.heap.size ∧ Below w.heap.size w w4 ∧ FkAt Hk (fun k => ok k ∨ W3.heap.size ≤ k) w4 bk (fun _ => .nil) e0 ∧ NdAt Hk (fun k => ok k ∨ W3.heap.size ≤ k) w4 (behind q m (n + 1)) (.iface t4 (.pointer (some ⟨b4, 0, none⟩))) ∧ (h4 = e0 ∨ Hk (behind q m (n + 1)) h4)) := by
    have h1 := behind_any Hk ok b q m (n + 1) W3.drew (HN.out.keep HB3.out.drew) (fun k hk => Nat.lt_of_lt_of_le (HOK.out k hk) HB3.out.size) hm (by omega) (by omega)
    rw [Int.natCast_add] at h1
    refine h1.mono ?_
    rintro e w4 ⟨v4, h4, rfl, hn4, hh4, hb4⟩
    have hne4 : behind q m (n + 1) ≠ .nil := by
      unfold behind; split
      · exact hm
      · simp
    obtain ⟨t4, b4, rfl⟩ := hn4.some hne4
    exact ⟨t4, b4, h4, rfl, hb4.size, HB3.out.drew.trans (hb4.mono HB3.out.size), ((HF3.out.keep (Below.refl _ _).drew).keep hb4).mono (fun k hk => hk.elim), hn4, hh4⟩
  have HH2 : Hid (∀ a l c, l = p.length - n → (∀ w5, Below w.heap.size w w5 → Nums w5 a (p.drop n)) → l ≤ c → ∀ w5 c5, W3.heap.size ≤ w5.heap.size → Below w.heap.size w w5 → FkAt Hk (fun k => ok k ∨ W3.heap.size ≤ k) w5 bk c5 e0 → Calls Tryz.prog 215 #[.pointer (some ⟨bk, 0, none⟩), .slice a l c, .string y] w5 fun e w6 => e = .returned (.tuple #[]) ∧ Below w.heap.size w w6 ∧ ∃ c6 x6, (Nd.br c5 e0).hang (p.drop n) y = .br c6 x6 ∧ FkAt Hk (fun k => (ok k ∨ W3.heap.size ≤ k) ∨ w5.heap.size ≤ k) w6 bk c6 x6) := by
    intro a l c hl ha hc2 w5 c5 hs5 hb5 hf5
    subst hl
    have hbl3 := HF3.out.lt
    have hbk := HBK.out
    have h := hang_any Hk (fun k => ok k ∨ W3.heap.size ≤ k) bk c5 e0 a c (p.drop n) y w5 hf5 (fun h => by rcases h with h | h; { have := HOK.out bk h; omega }; { omega }) (ha w5 hb5) (fun i hi => hp16 i (List.mem_of_mem_drop hi)) (by rw [List.length_drop]; exact hc2) (by rw [List.length_drop]; omega)
    rw [List.length_drop] at h
    refine h.mono ?_
    rintro e w6 ⟨rfl, hg, c6, x6, he, hf⟩
    exact ⟨rfl, hb5.grown hg hb5.size (fun k e => by injection e with e; rw [← e]; exact HBK.out), c6, x6, he, hf⟩
  have HAh : Hid (∀ (w5 w6 : World), W3.heap.size ≤ w5.heap.size → Below w.heap.size w w6 → ∀ c6 x6, (Nd.br (upd (fun _ => .nil) i (behind q m (n + 1))) e0).hang (p.drop n) y = .br c6 x6 → FkAt Hk (fun k => (ok k ∨ W3.heap.size ≤ k) ∨ w5.heap.size ≤ k) w6 bk c6 x6 → Calls Tryz.prog 216 #[.slice (some ⟨gp, op, none⟩) n cap, .agg #[.iface 252 (.pointer (some ⟨bk, 0, none⟩)), .string e0], .iface 252 (.pointer (some ⟨bk, 0, none⟩))] w6 fun e w7 => ∃ v7, e = .returned v7 ∧ NdAt Hk (fun k => ok k ∨ w.heap.size ≤ k) w7 ((Nd.ext q m).put p y) v7 ∧ Below w.heap.size w w7) := by
    intro w5 w6 hs5 hb6 c6 x6 he6 hf6
    have htl : (p.take n).length = n := by rw [List.length_take]; omega
    have h := ahead_any Hk (some ⟨gp, op, none⟩) cap (p.take n) (.br c6 x6) e0 _ _ w6 ((HP.out.keep hb6 (Nat.le_refl _)).take n) (fun h => by cases h) (by omega) (by simp only [Nd.plen]; omega) (by simp) hf6.node (.inl rfl)
    rw [htl] at h
    refine h.mono ?_
    rintro e w7 ⟨v7, rfl, hn7, hb7⟩
    refine ⟨v7, rfl, ?_, hb6.trans (hb7.mono hb6.size)⟩
    rw [HPT.out, he6]
    have hs3 := HB3.out.size
    have hsb := HBK.out
    have hs6 := hb6.size
    refine NdAt.mono (fun k hk => ?_) _ _ hn7
    rcases hk with (((hk | hk) | hk) | hk) | hk
    · exact .inl hk
    · exact .inr (by omega)
    · exact .inr (by omega)
    · exact .inr (by omega)
    · exact .inr (by omega)
  have HX5f : Hid (∀ (w4 : World) (t4 b4 : Nat) (h4 : ByteArray), W3.heap.size ≤ w4.heap.size ∧ Below w.heap.size w w4 ∧ FkAt Hk (fun k => ok k ∨ W3.heap.size ≤ k) w4 bk (fun _ => .nil) e0 ∧ NdAt Hk (fun k => ok k ∨ W3.heap.size ≤ k) w4 (behind q m (n + 1)) (.iface t4 (.pointer (some ⟨b4, 0, none⟩))) ∧ (h4 = e0 ∨ Hk (behind q m (n + 1)) h4) → W3.heap.size ≤ ((w4.setCell ⟨bk, i * 2, none⟩ (.iface t4 (.pointer (some ⟨b4, 0, none⟩)))).setCell ⟨bk, i * 2 + 1, none⟩ (.string h4)).heap.size ∧ Below w.heap.size w ((w4.setCell ⟨bk, i * 2, none⟩ (.iface t4 (.pointer (some ⟨b4, 0, none⟩)))).setCell ⟨bk, i * 2 + 1, none⟩ (.string h4)) ∧ FkAt Hk (fun k => ok k ∨ W3.heap.size ≤ k) ((w4.setCell ⟨bk, i * 2, none⟩ (.iface t4 (.pointer (some ⟨b4, 0, none⟩)))).setCell ⟨bk, i * 2 + 1, none⟩ (.string h4)) bk (upd (fun _ => .nil) i (behind q m (n + 1))) e0) := by
    rintro w4 t4 b4 h4 ⟨k1, k2, k3, k4, k5⟩
    have hbl3 := HF3.out.lt
    have hbk := HBK.out
    exact ⟨by simp [World.setCell]; exact k1, below_ref k2 HBK.out _ _ _ _, k3.setRef (fun h => by rcases h with h | h; { have := HOK.out bk h; omega }; { omega }) i hi16 _ _ _ k4 (k5.imp id (fun h => ⟨hnn _ _ h, h⟩))⟩
  by_cases hpc : cap = n
  · obtain rfl : n = p.length := by omega
    subst hpc
    have HH2' := hide (HH2.out (some ⟨gp, op, none⟩) 0 0 (by omega) (fun w4 _ => by rw [List.drop_length]; exact Nums.nil (fun a e => by injection e with e; rw [← e])) (by omega))
    clear HH2
    go_region_with ((go_at_call 236; refine HBe.out.mono ?_; rintro e w4 ⟨t4, b4, h4, rfl, hs4, hb4, hf4, hn4, hh4⟩; obtain ⟨g0, g1⟩ := HC.out w4 hb4; obtain ⟨⟨z0, y0⟩, ⟨z1, y1⟩, y2, y3⟩ := hf4.refCell i hi16; have HX5 := hide (HX5f.out w4 t4 b4 h4 (And.intro hs4 (And.intro hb4 (And.intro hf4 (And.intro hn4 hh4))))); clear hs4 hb4 hf4 hn4 hh4))
    all_goals
      generalize World.setCell (World.setCell w4 _ _) _ _ = w5 at *
      go_wp2_with fail
      refine (HH2'.out w5 _ HX5.out.1 HX5.out.2.1 HX5.out.2.2).mono ?_
      rintro e w6 ⟨rfl, hb6, c6, x6, he6, hf6⟩
      have HAH := hide (HAh.out w5 w6 HX5.out.1 hb6 c6 x6 he6 hf6)
      clear hb6 he6 hf6
      go_wp2_with fail
      refine HAH.out.mono ?_
      rintro e w7 ⟨v7, rfl, hn7, hb7⟩
      have HX7 := hide (And.intro hn7 hb7)
      clear hn7 hb7
      go_wp2
      go_ret2
      exact ⟨_, rfl, HX7.out.1, HX7.out.2⟩
  · have HH2' := hide (HH2.out (some ⟨gp, op + n, none⟩) (p.length - n) (cap - n) rfl (fun w4 h4 => (HP.out.keep h4 (Nat.le_refl _)).drop n) (by omega))
    have pcI : (n : Int) < (cap : Int) := by omega
    clear HH2
    go_region_with ((go_at_call 236; refine HBe.out.mono ?_; rintro e w4 ⟨t4, b4, h4, rfl, hs4, hb4, hf4, hn4, hh4⟩; obtain ⟨g0, g1⟩ := HC.out w4 hb4; obtain ⟨⟨z0, y0⟩, ⟨z1, y1⟩, y2, y3⟩ := hf4.refCell i hi16; have HX5 := hide (HX5f.out w4 t4 b4 h4 (And.intro hs4 (And.intro hb4 (And.intro hf4 (And.intro hn4 hh4))))); clear hs4 hb4 hf4 hn4 hh4))
    all_goals
      generalize World.setCell (World.setCell w4 _ _) _ _ = w5 at *
      go_wp2_with fail
      refine (HH2'.out w5 _ HX5.out.1 HX5.out.2.1 HX5.out.2.2).mono ?_
      rintro e w6 ⟨rfl, hb6, c6, x6, he6, hf6⟩
      have HAH := hide (HAh.out w5 w6 HX5.out.1 hb6 c6 x6 he6 hf6)
      clear hb6 he6 hf6
      go_wp2_with fail
      refine HAH.out.mono ?_
      rintro e w7 ⟨v7, rfl, hn7, hb7⟩
      have HX7 := hide (And.intro hn7 hb7)
      clear hn7 hb7
      go_wp2
      go_ret2
      exact ⟨_, rfl, HX7.out.1, HX7.out.2⟩
end Go.Proofs.YthdjmldddjljfaaGreatDoor
