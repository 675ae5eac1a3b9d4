/-
  OUR OWN: KnJ KnK KnL JoG KnM.
-/
import Derived.Test.YthdjmldddjljfaaGreatDoorG47
import Derived.Test.YthdjmldddjljfaaGreatDoorG44
import Derived.Test.YthdjmldddjljfaaGreatDoorG46
namespace Go.Proofs.YthdjmldddjljfaaGreatDoor
open Go.RowKit
attribute [local go_sem ↓] Go.wp_at_zero Go.wp_at_succ

theorem RTree.ex {X : Nat → Prop} {w w' : World} {T : Nat} {S lv : Value} {F : List (List Nat × ByteArray)} (h : RTree w T S lv F) (hx : Ex X w w') (hs : ∀ (k : Nat) (cs : Array Value) (t : TypeId) (fr : Nat × Nat), X k → w.heap[k]? = some (.cells cs t fr) → t ≠ 77 ∧ t ≠ 118 ∧ t ≠ 3) : RTree w' T S lv F := by
  have same : ∀ (k : Nat) (cs : Array Value) (t : TypeId) (fr : Nat × Nat), w.heap[k]? = some (.cells cs t fr) → (t = 77 ∨ t = 118 ∨ t = 3) → w'.heap[k]? = some (.cells cs t fr) := fun k cs t fr hk ht => by
    rw [hx.block k (Array.getElem?_eq_some_iff.1 hk).1 (fun hX => by
      obtain ⟨h1, h2, h3⟩ := hs k cs t fr hX hk
      rcases ht with ht | ht | ht
      · exact h1 ht
      · exact h2 ht
      · exact h3 ht)]
    exact hk
  refine ⟨same _ _ _ _ h.box (.inl rfl), h.list.imp id (fun h => ⟨h.1, ?_⟩)⟩
  obtain ⟨css, h1, h2⟩ := h.2
  refine ⟨css, own_far h1 (fun g hg hl => ?_), h2.mono (fun _ _ h => h.keep (fun g cur hg => same g _ _ _ hg (.inr (.inr rfl))))⟩
  obtain ⟨_, cur, hc⟩ := ownsRow_type h1 g hg
  rw [hc]
  exact same g _ _ _ hc (.inr (.inl rfl))
theorem TreeAt.ex {Hk : Nd → ByteArray → Prop} {ok : Nat → Prop} {X : Nat → Prop} {w w' : World} {T : Nat} {st : Value} {n : Nd} (h : TreeAt Hk ok w T st n) (hx : Ex X w w') (hT : ¬ X T) (hok : ∀ k, ok k → ¬ X k) : TreeAt Hk ok w' T st n := by
  have hl := h.lt
  obtain ⟨u, h1, h2⟩ := h.held
  exact ⟨⟨u, (hx.block T hl hT).trans h1, NdAt.keepIn (fun b hb hbl => hx.block b hbl (hok b hb)) n u h2⟩, fun k hk => ⟨Nat.lt_of_lt_of_le (h.blk k hk).1 hx.size, (h.blk k hk).2⟩⟩
set_option maxHeartbeats 1000000 in
set_option maxRecDepth 20000 in
theorem samePairs_any (ao bo : Option Addr) (ca cb : Nat) (L : List Pr) (w : World) (ha : Prs w ao L) (hb : Prs w bo L) (hl : L.length ≤ 1000000) :
    Calls Tryz.prog 38 #[.slice ao L.length ca, .slice bo L.length cb] w fun e w' => e = .returned (.bool true) ∧ Below w.heap.size w w' := by
  have HA := hide ha
  have HB := hide hb
  clear ha hb
  go_enter Tryz.func38, Tryz.ntmps38
  go_wp2_with fail
  go_loopw [5] (fun iv wr => ∃ i : Nat, i ≤ L.length ∧ iv = .int .i64 (i : Int) ∧ Below w.heap.size w wr) (fun iv _ => L.length - (intOf iv).toNat)
  case atStart => exact ⟨0, by omega, rfl, Below.refl _ _⟩
  case round =>
    obtain ⟨i, hi, rfl, hbw⟩ := hrel
    have HBW := hide hbw
    clear hbw
    have j0 : (0 : Int) ≤ (i : Int) := by omega
    by_cases hil : i < L.length
    · have j1 : (i : Int) < (L.length : Int) := by omega
      obtain ⟨g1, o1, rfl, x1, x2⟩ := HA.out.keep HBW.out i hil
      obtain ⟨g2, o2, rfl, y1, y2⟩ := HB.out.keep HBW.out i hil
      generalize L.getD i pr0 = t at *
      go_wp2
      go_quiet (fail)
      go_wp2
      go_roundw
      case rel => exact ⟨i + 1, by omega, by go_num, below_drewN HBW.out _⟩
      case measure => simp [intOf]; omega
    · obtain rfl : i = L.length := by omega
      go_wp2
      go_ret
      exact ⟨rfl, HBW.out⟩
theorem infoPr : (Tryz.prog.info? 33).map (fun i => (i.zero, i.size, i.bytes)) = some (some (.agg #[.string ⟨#[]⟩, .string ⟨#[]⟩]), 2, 32) := by kernel_rfl
theorem make_pairs2 (w : World) : (Instr.makeSlice 27 (.int .i64 2) (.int .i64 2)).run Tryz.prog w = .ok (.slice (some ⟨w.heap.size, 0, none⟩) 2 2) (w.alloc (.cells #[.string ⟨#[]⟩, .string ⟨#[]⟩, .string ⟨#[]⟩, .string ⟨#[]⟩] 33)) := by
  obtain ⟨i0, hi, hz0, hz1, hz2⟩ := info_parts infoPr
  have h := run_make (P := Tryz.prog) w 27 33 i0 (.agg #[.string ⟨#[]⟩, .string ⟨#[]⟩]) Tryz.underlying27 hi hz0 .i64 .i64 2 2 (by omega) (by omega) (by rw [hz2]; omega) (by omega)
  rw [show (#[.string ⟨#[]⟩, .string ⟨#[]⟩, .string ⟨#[]⟩, .string ⟨#[]⟩] : Array Value) = madeCells #[.string ⟨#[]⟩, .string ⟨#[]⟩] 4 from by kernel_rfl]
  simpa [hz1, Value.cells] using h
set_option maxRecDepth 20000 in
theorem put_copy (T R P : Nat) (k v : ByteArray) (w : World) (HPl : Hid (P < w.heap.size)) (HP : Hid (w.heap[P]? = some (.cells #[.string k, .string v] 33 (0, 0)))) :
    ∃ W1, (Builtin.copy_ #[27, 27] 3 #[.slice (some ⟨w.heap.size + 1 + 1 + 1, 0, none⟩) 2 2, .slice (some ⟨P, 0, none⟩) 1 1]).run Tryz.prog ((((w.alloc (.cells #[.pointer (some ⟨T, 0, none⟩), .pointer (some ⟨R, 0, none⟩)] 51)).alloc (.cells #[.int .i64 1, .int .i64 0, .string ⟨#[]⟩, .int .i64 0, .slice (some ⟨P, 0, none⟩) 1 1, .slice none 0 0] 40)).alloc (.cells #[.string lentS, .string ⟨#[]⟩] 33)).alloc (.cells #[.string ⟨#[]⟩, .string ⟨#[]⟩, .string ⟨#[]⟩, .string ⟨#[]⟩] 33)) = .ok (.int .i64 1) W1 ∧
      W1.heap[w.heap.size]? = some (.cells #[.pointer (some ⟨T, 0, none⟩), .pointer (some ⟨R, 0, none⟩)] 51 (0, 0)) ∧ W1.heap[w.heap.size + 1]? = some (.cells #[.int .i64 1, .int .i64 0, .string ⟨#[]⟩, .int .i64 0, .slice (some ⟨P, 0, none⟩) 1 1, .slice none 0 0] 40 (0, 0)) ∧
      W1.heap[w.heap.size + 1 + 1]? = some (.cells #[.string lentS, .string ⟨#[]⟩] 33 (0, 0)) ∧ W1.heap[w.heap.size + 1 + 1 + 1]? = some (.cells #[.string k, .string v, .string ⟨#[]⟩, .string ⟨#[]⟩] 33 (0, 0)) ∧ Below w.heap.size w W1 := by
  have hb : Below w.heap.size w ((((w.alloc (.cells #[.pointer (some ⟨T, 0, none⟩), .pointer (some ⟨R, 0, none⟩)] 51)).alloc (.cells #[.int .i64 1, .int .i64 0, .string ⟨#[]⟩, .int .i64 0, .slice (some ⟨P, 0, none⟩) 1 1, .slice none 0 0] 40)).alloc (.cells #[.string lentS, .string ⟨#[]⟩] 33)).alloc (.cells #[.string ⟨#[]⟩, .string ⟨#[]⟩, .string ⟨#[]⟩, .string ⟨#[]⟩] 33)) :=
    (((below_alloc w _).alloc (by simp) _).alloc (by simp; omega) _).alloc (by simp; omega) _
  have y3 := heap_alloc_new (((w.alloc (.cells #[.pointer (some ⟨T, 0, none⟩), .pointer (some ⟨R, 0, none⟩)] 51)).alloc (.cells #[.int .i64 1, .int .i64 0, .string ⟨#[]⟩, .int .i64 0, .slice (some ⟨P, 0, none⟩) 1 1, .slice none 0 0] 40)).alloc (.cells #[.string lentS, .string ⟨#[]⟩] 33)) (.cells #[.string ⟨#[]⟩, .string ⟨#[]⟩, .string ⟨#[]⟩, .string ⟨#[]⟩] 33)
  have y2 := (Below.heap_alloc (((w.alloc (.cells #[.pointer (some ⟨T, 0, none⟩), .pointer (some ⟨R, 0, none⟩)] 51)).alloc (.cells #[.int .i64 1, .int .i64 0, .string ⟨#[]⟩, .int .i64 0, .slice (some ⟨P, 0, none⟩) 1 1, .slice none 0 0] 40)).alloc (.cells #[.string lentS, .string ⟨#[]⟩] 33)) (.cells #[.string ⟨#[]⟩, .string ⟨#[]⟩, .string ⟨#[]⟩, .string ⟨#[]⟩] 33) _ (by simp)).trans (heap_alloc_new ((w.alloc (.cells #[.pointer (some ⟨T, 0, none⟩), .pointer (some ⟨R, 0, none⟩)] 51)).alloc (.cells #[.int .i64 1, .int .i64 0, .string ⟨#[]⟩, .int .i64 0, .slice (some ⟨P, 0, none⟩) 1 1, .slice none 0 0] 40)) (.cells #[.string lentS, .string ⟨#[]⟩] 33))
  have y1 := ((Below.heap_alloc (((w.alloc (.cells #[.pointer (some ⟨T, 0, none⟩), .pointer (some ⟨R, 0, none⟩)] 51)).alloc (.cells #[.int .i64 1, .int .i64 0, .string ⟨#[]⟩, .int .i64 0, .slice (some ⟨P, 0, none⟩) 1 1, .slice none 0 0] 40)).alloc (.cells #[.string lentS, .string ⟨#[]⟩] 33)) (.cells #[.string ⟨#[]⟩, .string ⟨#[]⟩, .string ⟨#[]⟩, .string ⟨#[]⟩] 33) _ (by simp)).trans (Below.heap_alloc ((w.alloc (.cells #[.pointer (some ⟨T, 0, none⟩), .pointer (some ⟨R, 0, none⟩)] 51)).alloc (.cells #[.int .i64 1, .int .i64 0, .string ⟨#[]⟩, .int .i64 0, .slice (some ⟨P, 0, none⟩) 1 1, .slice none 0 0] 40)) (.cells #[.string lentS, .string ⟨#[]⟩] 33) _ (by simp))).trans (heap_alloc_new (w.alloc (.cells #[.pointer (some ⟨T, 0, none⟩), .pointer (some ⟨R, 0, none⟩)] 51)) (.cells #[.int .i64 1, .int .i64 0, .string ⟨#[]⟩, .int .i64 0, .slice (some ⟨P, 0, none⟩) 1 1, .slice none 0 0] 40))
  have y0 := ((Below.heap_alloc (((w.alloc (.cells #[.pointer (some ⟨T, 0, none⟩), .pointer (some ⟨R, 0, none⟩)] 51)).alloc (.cells #[.int .i64 1, .int .i64 0, .string ⟨#[]⟩, .int .i64 0, .slice (some ⟨P, 0, none⟩) 1 1, .slice none 0 0] 40)).alloc (.cells #[.string lentS, .string ⟨#[]⟩] 33)) (.cells #[.string ⟨#[]⟩, .string ⟨#[]⟩, .string ⟨#[]⟩, .string ⟨#[]⟩] 33) w.heap.size (by simp; omega)).trans ((Below.heap_alloc ((w.alloc (.cells #[.pointer (some ⟨T, 0, none⟩), .pointer (some ⟨R, 0, none⟩)] 51)).alloc (.cells #[.int .i64 1, .int .i64 0, .string ⟨#[]⟩, .int .i64 0, .slice (some ⟨P, 0, none⟩) 1 1, .slice none 0 0] 40)) (.cells #[.string lentS, .string ⟨#[]⟩] 33) w.heap.size (by simp; omega)).trans (Below.heap_alloc (w.alloc (.cells #[.pointer (some ⟨T, 0, none⟩), .pointer (some ⟨R, 0, none⟩)] 51)) (.cells #[.int .i64 1, .int .i64 0, .string ⟨#[]⟩, .int .i64 0, .slice (some ⟨P, 0, none⟩) 1 1, .slice none 0 0] 40) w.heap.size (by simp)))).trans (heap_alloc_new w (.cells #[.pointer (some ⟨T, 0, none⟩), .pointer (some ⟨R, 0, none⟩)] 51))
  simp only [World.size_alloc] at y1 y2 y3
  generalize ((((w.alloc (.cells #[.pointer (some ⟨T, 0, none⟩), .pointer (some ⟨R, 0, none⟩)] 51)).alloc (.cells #[.int .i64 1, .int .i64 0, .string ⟨#[]⟩, .int .i64 0, .slice (some ⟨P, 0, none⟩) 1 1, .slice none 0 0] 40)).alloc (.cells #[.string lentS, .string ⟨#[]⟩] 33)).alloc (.cells #[.string ⟨#[]⟩, .string ⟨#[]⟩, .string ⟨#[]⟩, .string ⟨#[]⟩] 33)) = W at *
  have hpW : W.heap[P]? = some (.cells #[.string k, .string v] 33 (0, 0)) := (hb.block P HPl.out).trans HP.out
  have hr := run_copy_row2 (P := Tryz.prog) W 27 27 3 33 (w.heap.size + 1 + 1 + 1) 0 2 2 ⟨P, 0, none⟩ 1 1 #[.string ⟨#[]⟩, .string ⟨#[]⟩, .string ⟨#[]⟩, .string ⟨#[]⟩] 33 [.string k, .string v] Tryz.underlying27 sizePair y3 rfl (World.news_of_block (cs := #[.string k, .string v]) hpW) (by simp) (by simp [Value.oneCell'])
  refine ⟨_, hr, ?_, ?_, ?_, setRow_heap W _ _ _ _ _ y3, ?_⟩
  · rw [setRow_other]; exact y0; omega
  · rw [setRow_other]; exact y1; omega
  · rw [setRow_other]; exact y2; omega
  · exact ⟨hb.os, hb.tape, hb.output, by rw [setRow_size]; exact hb.size, fun j hj => by rw [setRow_other _ _ _ _ (by omega)]; exact hb.block j hj⟩
set_option maxHeartbeats 4000000 in
set_option maxRecDepth 20000 in
theorem changes_put (B T R P : Nat) (st S : Value) (k v : ByteArray) (w : World) (hA : TreeAt HkC (fun _ => False) w T st .nil) (hR : RTree w R S (.slice none 0 0) []) (hp : w.heap[P]? = some (.cells #[.string k, .string v] 33 (0, 0))) (hk : k.size ≤ 64) (hv : v.size ≠ 0) (hv2 : v.size ≤ 400) :
    Calls Tryz.prog 27 #[.pointer (some ⟨B, 0, none⟩), .agg #[ptr T, ptr R], .agg #[.int .i64 1, .int .i64 0, .string ⟨#[]⟩, .int .i64 0, .slice (some ⟨P, 0, none⟩) 1 1, .slice none 0 0]] w fun e w' =>
      e = .returned (.bool true) ∧ Ex (fun j => j = T ∨ j = R) w w' ∧ TreeAt HkC (fun j => w.heap.size ≤ j ∧ j < w'.heap.size) w' T st (setAll .nil [(k, v)]) ∧ ∃ rv, RTree w' R S rv [(pathN k, v)] := by
  have HA := hide hA
  have HR := hide hR
  have HP := hide hp
  have HHk := hide hk
  have HHv := hide hv
  have HHw := hide hv2
  have HT : Hid (T < w.heap.size) := hA.lt
  have HRl : Hid (R < w.heap.size) := (Array.getElem?_eq_some_iff.1 hR.box).1
  have HPl : Hid (P < w.heap.size) := (Array.getElem?_eq_some_iff.1 hp).1
  clear hA hR hp hk hv hv2
  unfold ptr
  obtain ⟨W1, hcopy, x4, x5, x8, xX, hb1⟩ := put_copy T R P k v w HPl HP
  have hmk := make_pairs2
  unfold lentS at hcopy x8
  have HB1 := hide hb1
  have HX := hide (And.intro x4 (And.intro x5 (And.intro x8 xX)))
  have c40 : W1.cell? ⟨w.heap.size, 0, none⟩ = some (.pointer (some ⟨T, 0, none⟩)) := cell_of_row _ _ 0 _ _ (0, 0) x4
  have c80 : W1.cell? ⟨w.heap.size + 1 + 1, 0, none⟩ = some (.string ⟨#[108, 101, 110, 116]⟩) := cell_of_row _ _ 0 _ _ (0, 0) x8
  have c81 : W1.cell? ⟨w.heap.size + 1 + 1, 1, none⟩ = some (.string ⟨#[]⟩) := cell_of_row _ _ 1 _ _ (0, 0) x8
  have cX2 : W1.cell? ⟨w.heap.size + 1 + 1 + 1, 2, none⟩ = some (.string ⟨#[]⟩) := cell_of_row _ _ 2 _ _ (0, 0) xX
  have cX3 : W1.cell? ⟨w.heap.size + 1 + 1 + 1, 3, none⟩ = some (.string ⟨#[]⟩) := cell_of_row _ _ 3 _ _ (0, 0) xX
  have fX : ∀ j, W1.frozen? ⟨w.heap.size + 1 + 1 + 1, j, none⟩ = false := fun j => frozen_of_row _ _ j _ _ xX
  clear x4 x5 x8 xX hb1
  go_enter Tryz.func27, Tryz.ntmps27
  go_wp2_with fail
  have hX2 : ((W1.setCell ⟨w.heap.size + 1 + 1 + 1, 2, none⟩ (.string ⟨#[108, 101, 110, 116]⟩)).setCell ⟨w.heap.size + 1 + 1 + 1, 3, none⟩ (.string ⟨#[]⟩)).heap[w.heap.size + 1 + 1 + 1]? = some (.cells #[.string k, .string v, .string ⟨#[108, 101, 110, 116]⟩, .string ⟨#[]⟩] 33 (0, 0)) :=
    heap_setCell_same _ _ 3 _ 33 _ (heap_setCell_same W1 _ 2 _ 33 _ HX.out.2.2.2)
  have hB2 : Below w.heap.size w ((W1.setCell ⟨w.heap.size + 1 + 1 + 1, 2, none⟩ (.string ⟨#[108, 101, 110, 116]⟩)).setCell ⟨w.heap.size + 1 + 1 + 1, 3, none⟩ (.string ⟨#[]⟩)) := below_set2 HB1.out (by omega) _ _ _ _
  have hO2 : ∀ j, j ≠ w.heap.size + 1 + 1 + 1 → ((W1.setCell ⟨w.heap.size + 1 + 1 + 1, 2, none⟩ (.string ⟨#[108, 101, 110, 116]⟩)).setCell ⟨w.heap.size + 1 + 1 + 1, 3, none⟩ (.string ⟨#[]⟩)).heap[j]? = W1.heap[j]? := fun j hj => by
    rw [heap_setCell_other _ _ _ _ (by exact hj), heap_setCell_other _ _ _ _ (by exact hj)]
  have h42 := (hO2 w.heap.size (by omega)).trans HX.out.1
  have h52 := (hO2 (w.heap.size + 1) (by omega)).trans HX.out.2.1
  have h82 := (hO2 (w.heap.size + 1 + 1) (by omega)).trans HX.out.2.2.1
  have HF2 := hide (And.intro h42 (And.intro h52 (And.intro h82 hX2)))
  have HB2 := hide hB2
  clear hX2 hB2 hO2 h42 h52 h82 c40 c80 c81 cX2 cX3 fX HX HB1 hcopy hmk
  generalize ((W1.setCell ⟨w.heap.size + 1 + 1 + 1, 2, none⟩ (.string ⟨#[108, 101, 110, 116]⟩)).setCell ⟨w.heap.size + 1 + 1 + 1, 3, none⟩ (.string ⟨#[]⟩)) = W2 at *
  generalize hX : w.heap.size + 1 + 1 + 1 = X at *
  generalize h8 : w.heap.size + 1 + 1 = a8 at *
  generalize h5 : w.heap.size + 1 = a5 at *
  have HN : Hid (a5 = w.heap.size + 1 ∧ a8 = w.heap.size + 2 ∧ X = w.heap.size + 3) := by refine ⟨?_, ?_, ?_⟩ <;> omega
  clear hX h8 h5
  have HPut := hide (fun W (hW : Below w.heap.size w W) (hm : Prs W (some ⟨X, 0, none⟩) [(k, v)]) => cPut_any HkC HkC.ne (fun _ => False) T st .nil (some ⟨X, 0, none⟩) 2 [(k, v)] W (HA.out.keep hW) TOk.nil hm (by intro p hp; simp at hp; rw [hp]; exact ⟨HHk.out, HHw.out⟩) (by simp))
  have HPrs : Hid (∀ W : World, W.heap[X]? = W2.heap[X]? → Prs W (some ⟨X, 0, none⟩) [(k, v)]) := fun W hW i hi => by
    obtain rfl : i = 0 := by simpa using hi
    have hx := hW.trans HF2.out.2.2.2
    exact ⟨X, 0, rfl, cell_of_row _ _ 0 _ _ (0, 0) hx, cell_of_row _ _ 1 _ _ (0, 0) hx⟩
  have c40 : W2.cell? ⟨w.heap.size, 0, none⟩ = some (.pointer (some ⟨T, 0, none⟩)) := cell_of_row _ _ 0 _ _ (0, 0) HF2.out.1
  unfold ptr at HPut
  go_region_held3 (fun W => W.cell? ⟨w.heap.size, 0, none⟩ = some (.pointer (some ⟨T, 0, none⟩))) (first | go_keep | (simp [*])) ((go_at_call 10; refine (HPut.out W2.drew HB2.out.drew (HPrs.out W2.drew rfl)).mono ?_; rintro e w3 ⟨rfl, h1, h2⟩; have HO3 := hide h1; have HT3 := hide h2; have c403 : w3.cell? ⟨w.heap.size, 0, none⟩ = some (.pointer (some ⟨T, 0, none⟩)) := (by rw [World.cell?_of_block (h1.block _ (Array.getElem?_eq_some_iff.1 HF2.out.1).1 (by have := HT.out; simp; omega))]; exact c40); clear h1 h2))
  have HS3 : Hid (W2.heap.size ≤ w3.heap.size) := HO3.out.size
  have HK3 : Hid (∀ j, j < W2.heap.size → j ≠ T → w3.heap[j]? = W2.heap[j]?) := fun j hj hne => HO3.out.block j hj (by simpa using hne)
  have hlX : X < W2.heap.size := (Array.getElem?_eq_some_iff.1 HF2.out.2.2.2).1
  have HlX := hide hlX
  have h43 : w3.heap[w.heap.size]? = _ := (HK3.out _ (by have := HN.out; omega) (by have := HT.out; omega)).trans HF2.out.1
  have h53 : w3.heap[a5]? = _ := (HK3.out _ (by have := HN.out; omega) (by have := HN.out; have := HT.out; omega)).trans HF2.out.2.1
  have h83 : w3.heap[a8]? = _ := (HK3.out _ (by have := HN.out; omega) (by have := HN.out; have := HT.out; omega)).trans HF2.out.2.2.1
  have hX3 : w3.heap[X]? = _ := (HK3.out _ hlX (by have := HN.out; have := HT.out; omega)).trans HF2.out.2.2.2
  have hE3 : Ex (fun j => j = T) w w3 := by
    have hb := HB2.out
    refine ⟨HO3.out.os.trans hb.os, HO3.out.tape.trans hb.tape, HO3.out.output.trans hb.output, Nat.le_trans hb.size HS3.out, fun j hj hne => ?_⟩
    rw [HK3.out j (Nat.lt_of_lt_of_le hj hb.size) hne]
    exact hb.block j hj
  have htT : ∀ (j : Nat) (cs : Array Value) (t : TypeId) (fr : Nat × Nat), j = T → w.heap[j]? = some (.cells cs t fr) → t = 71 := fun j cs t fr hj hc => by
    obtain ⟨u, h1, _⟩ := HA.out.held
    rw [hj, h1] at hc
    injection hc with hc
    injection hc with _ hc _
    exact hc.symm
  have hR3 : RTree w3 R S (.slice none 0 0) [] := HR.out.ex hE3 (fun j cs t fr hj hc => by
    rw [htT j cs t fr hj hc]
    exact ⟨by decide, by decide, by decide⟩)
  have hP3 : w3.heap[P]? = some (.cells #[.string k, .string v] 33 (0, 0)) := by
    rw [hE3.block P HPl.out (fun e => absurd (htT P _ _ _ e HP.out) (by decide))]; exact HP.out
  have HRef := hide (refPut_one S (.slice none 0 0) R [] k v P 0 1 w3 hR3 (by simp) (by simp) (by simp) HHk.out HHv.out HHw.out (cell_of_row _ _ 0 _ _ (0, 0) hP3) (cell_of_row _ _ 1 _ _ (0, 0) hP3))
  have c413 : w3.cell? ⟨w.heap.size, 1, none⟩ = some (.pointer (some ⟨R, 0, none⟩)) := cell_of_row _ _ 1 _ _ (0, 0) h43
  have c543 : w3.cell? ⟨a5, 4, none⟩ = some (.slice (some ⟨P, 0, none⟩) 1 1) := cell_of_row _ _ 4 _ _ (0, 0) h53
  have HF3 := hide (And.intro h43 (And.intro h53 (And.intro h83 (And.intro hX3 hP3))))
  have HE3 := hide hE3
  have HTT := hide htT
  clear h43 h53 h83 hX3 hE3 htT hR3 hP3 c40 c403 hlX
  go_wp2_with fail
  refine HRef.out.mono ?_
  rintro e w4 ⟨rv, W4, rfl, rfl, hb4, hr4⟩
  have HB4 := hide hb4
  have HR4 := hide hr4
  clear hb4 hr4
  have hE4 : Ex (fun j => j = R) w3 (W4.setCell ⟨R, 1, none⟩ rv) := (Ex.of_below (X := fun j => j = R) HB4.out).set (p := ⟨R, 1, none⟩) (.inl rfl) rv
  have hl3 := HB2.out.size
  have s3 := HS3.out
  have hRn : R ≠ P := fun e => by
    have h1 := HR.out.box
    rw [e, HP.out] at h1
    injection h1 with h1
    injection h1 with _ h1 _
    exact absurd h1 (by decide)
  have hh44 : (W4.setCell ⟨R, 1, none⟩ rv).heap[w.heap.size]? = _ := (hE4.block _ (Array.getElem?_eq_some_iff.1 HF3.out.1).1 (by have := HRl.out; show _ ≠ R; omega)).trans HF3.out.1
  have hh54 : (W4.setCell ⟨R, 1, none⟩ rv).heap[a5]? = _ := (hE4.block _ (Array.getElem?_eq_some_iff.1 HF3.out.2.1).1 (by have := HRl.out; have := HN.out; show _ ≠ R; omega)).trans HF3.out.2.1
  have hh84 : (W4.setCell ⟨R, 1, none⟩ rv).heap[a8]? = _ := (hE4.block _ (Array.getElem?_eq_some_iff.1 HF3.out.2.2.1).1 (by have := HRl.out; have := HN.out; show _ ≠ R; omega)).trans HF3.out.2.2.1
  have hhX4 : (W4.setCell ⟨R, 1, none⟩ rv).heap[X]? = _ := (hE4.block _ (Array.getElem?_eq_some_iff.1 HF3.out.2.2.2.1).1 (by have := HRl.out; have := HN.out; show _ ≠ R; omega)).trans HF3.out.2.2.2.1
  have hhP4 : (W4.setCell ⟨R, 1, none⟩ rv).heap[P]? = _ := (hE4.block _ (Array.getElem?_eq_some_iff.1 HF3.out.2.2.2.2).1 (by show P ≠ R; exact Ne.symm hRn)).trans HF3.out.2.2.2.2
  have HE4 := hide hE4
  clear hE4 hl3 s3 hRn HB4
  generalize (W4.setCell ⟨R, 1, none⟩ rv) = w4 at *
  have c54 : w4.cell? ⟨a5, 4, none⟩ = some (.slice (some ⟨P, 0, none⟩) 1 1) := cell_of_row _ _ 4 _ _ (0, 0) hh54
  have c80 : w4.cell? ⟨a8, 0, none⟩ = some (.string ⟨#[108, 101, 110, 116]⟩) := cell_of_row _ _ 0 _ _ (0, 0) hh84
  have c81 : w4.cell? ⟨a8, 1, none⟩ = some (.string ⟨#[]⟩) := cell_of_row _ _ 1 _ _ (0, 0) hh84
  have cX2 : w4.cell? ⟨X, 2, none⟩ = some (.string ⟨#[108, 101, 110, 116]⟩) := cell_of_row _ _ 2 _ _ (0, 0) hhX4
  have cX3 : w4.cell? ⟨X, 3, none⟩ = some (.string ⟨#[]⟩) := cell_of_row _ _ 3 _ _ (0, 0) hhX4
  have HSame : Hid (Calls Tryz.prog 38 #[.slice (some ⟨X, 0, none⟩) 1 2, .slice (some ⟨P, 0, none⟩) 1 1] w4.drew fun e w' => e = .returned (.bool true) ∧ Below w4.heap.size w4.drew w') :=
    samePairs_any (some ⟨X, 0, none⟩) (some ⟨P, 0, none⟩) 2 1 [(k, v)] w4.drew
      (fun i hi => by
        obtain rfl : i = 0 := by simpa using hi
        exact ⟨X, 0, rfl, cell_of_row _ _ 0 _ _ (0, 0) hhX4, cell_of_row _ _ 1 _ _ (0, 0) hhX4⟩)
      (fun i hi => by
        obtain rfl : i = 0 := by simpa using hi
        exact ⟨P, 0, rfl, cell_of_row _ _ 0 _ _ (0, 0) hhP4, cell_of_row _ _ 1 _ _ (0, 0) hhP4⟩) (by simp)
  have HF4 := hide (And.intro hh84 (And.intro hhX4 hh54))
  clear hh44 hh54 hh84 hhX4 hhP4 HPut HPrs HRef
  have HKc : Hid (∀ w5 : World, Below w4.heap.size w4.drew w5 → w5.cell? ⟨a5, 4, none⟩ = some (.slice (some ⟨P, 0, none⟩) 1 1) ∧ w5.cell? ⟨a8, 0, none⟩ = some (.string ⟨#[108, 101, 110, 116]⟩) ∧ w5.cell? ⟨a8, 1, none⟩ = some (.string ⟨#[]⟩) ∧ w5.cell? ⟨X, 2, none⟩ = some (.string ⟨#[108, 101, 110, 116]⟩) ∧ w5.cell? ⟨X, 3, none⟩ = some (.string ⟨#[]⟩)) := fun w5 hb =>
    ⟨(hb.cell (p := ⟨a5, 4, none⟩) (World.block_lt_of_cell? w4 _ c54)).trans c54, (hb.cell (p := ⟨a8, 0, none⟩) (World.block_lt_of_cell? w4 _ c80)).trans c80, (hb.cell (p := ⟨a8, 1, none⟩) (World.block_lt_of_cell? w4 _ c81)).trans c81, (hb.cell (p := ⟨X, 2, none⟩) (World.block_lt_of_cell? w4 _ cX2)).trans cX2, (hb.cell (p := ⟨X, 3, none⟩) (World.block_lt_of_cell? w4 _ cX3)).trans cX3⟩
  go_wp2_with fail
  go_region_held3 (fun W => W.cell? ⟨a5, 4, none⟩ = some (.slice (some ⟨P, 0, none⟩) 1 1) ∧ W.cell? ⟨a8, 0, none⟩ = some (.string ⟨#[108, 101, 110, 116]⟩) ∧ W.cell? ⟨a8, 1, none⟩ = some (.string ⟨#[]⟩) ∧ W.cell? ⟨X, 2, none⟩ = some (.string ⟨#[108, 101, 110, 116]⟩) ∧ W.cell? ⟨X, 3, none⟩ = some (.string ⟨#[]⟩)) (first | go_keep | (simp [*])) ((go_at_call 38; refine HSame.out.mono ?_; rintro e w5 ⟨rfl, hb5⟩; have HB5 := hide hb5; obtain ⟨q1, q2, q3, q4, q5⟩ := HKc.out w5 hb5; clear hb5))
  have hX5 : w5.heap[X]? = some (.cells #[.string k, .string v, .string ⟨#[108, 101, 110, 116]⟩, .string ⟨#[]⟩] 33 (0, 0)) := (HB5.out.block X (Array.getElem?_eq_some_iff.1 HF4.out.2.1).1).trans HF4.out.2.1
  have HX5 := hide hX5
  have HU := hide num_any
  clear hX5 q1 q2 q3 q4 q5 c54 c80 c81 cX2 cX3 HKc HSame
  go_wp2_with fail
  go_loopw [13] (fun iv wr => ∃ z : Int, iv = .int .i64 z ∧ (z = 0 ∨ z = 1 ∨ z = 2) ∧ (∃ s0 s1 s2 s3, wr.heap[X]? = some (.cells #[.string s0, .string s1, .string s2, .string s3] 33 (0, 0))) ∧ Ex (fun j => j = X) w5 wr) (fun iv _ => 2 - (intOf iv).toNat)
  case atStart => exact ⟨0, rfl, .inl rfl, ⟨_, _, _, _, HX5.out⟩, Ex.of_below (Below.refl _ _)⟩
  case round =>
    obtain ⟨z, rfl, hz, ⟨s0, s1, s2, s3, hrow⟩, hex⟩ := hrel
    have HRow := hide hrow
    have HEx := hide hex
    have d0 : wr.cell? ⟨X, 0, none⟩ = some (.string s0) := cell_of_row _ _ 0 _ _ (0, 0) hrow
    have d1 : wr.cell? ⟨X, 1, none⟩ = some (.string s1) := cell_of_row _ _ 1 _ _ (0, 0) hrow
    have d2 : wr.cell? ⟨X, 2, none⟩ = some (.string s2) := cell_of_row _ _ 2 _ _ (0, 0) hrow
    have d3 : wr.cell? ⟨X, 3, none⟩ = some (.string s3) := cell_of_row _ _ 3 _ _ (0, 0) hrow
    have ff : ∀ j, wr.frozen? ⟨X, j, none⟩ = false := fun j => frozen_of_row _ _ j _ _ hrow
    clear hrow hex
    rcases hz with rfl | rfl | rfl
    · go_wp2
      go_roundw
      case rel => exact ⟨1, rfl, .inr (.inl rfl), ⟨_, _, _, _, heap_setCell_same _ X 1 _ 33 _ (heap_setCell_same wr X 0 _ 33 _ HRow.out)⟩, (HEx.out.set (p := ⟨X, 0, none⟩) (.inl rfl) _).set (p := ⟨X, 1, none⟩) (.inl rfl) _⟩
      case measure => simp [intOf]
    · go_wp2
      go_roundw
      case rel => exact ⟨2, rfl, .inr (.inr rfl), ⟨_, _, _, _, heap_setCell_same _ X 3 _ 33 _ (heap_setCell_same wr X 2 _ 33 _ HRow.out)⟩, (HEx.out.set (p := ⟨X, 2, none⟩) (.inl rfl) _).set (p := ⟨X, 3, none⟩) (.inl rfl) _⟩
      case measure => simp [intOf]
    · go_wp2_with fail
      refine (HU.out _ _).mono ?_
      rintro e w6 ⟨rfl, rfl⟩
      go_wp2
      go_ret
      have hN := HN.out
      have s2 := HB2.out.size
      have s3 := HS3.out
      have s4 := HE4.out.size
      have s5 : w4.heap.size ≤ w5.heap.size := HB5.out.size
      have s6 := HEx.out.size
      have lX := HlX.out
      have hb45 : Below w4.heap.size w4 w5 := (Below.refl _ _).drew.trans HB5.out
      have h36 : Ex (fun j => j = R ∨ j = X) w3 w6 := ((HE4.out.mono (fun j _ h => .inl h)).trans (Ex.of_below hb45)).trans (HEx.out.mono (fun j _ h => .inr h))
      refine ⟨rfl, ?_, ?_, rv, ?_⟩
      · refine ⟨h36.os.trans HE3.out.os, h36.tape.trans HE3.out.tape, h36.output.trans HE3.out.output, by omega, fun j hj hx => ?_⟩
        rw [h36.block j (by omega) (fun h => by rcases h with h | h; exact hx (.inr h); omega)]
        exact HE3.out.block j hj (fun e => hx (.inl e))
      · have hTR : T ≠ R := fun e => by
          have h1 := HTT.out R _ _ _ e.symm HR.out.box
          exact absurd h1 (by decide)
        have ht := HT3.out.ex h36 (fun h => by rcases h with h | h; exact hTR h; have := HT.out; omega) (fun j hj h => by
          rcases hj with hj | hj
          · exact hj
          · have h1 : W2.heap.size ≤ j := hj.1
            have := HRl.out
            rcases h with h | h <;> omega)
        refine ht.mono (fun j hj => ?_) (fun j hj => ⟨hj.2, by have := HT.out; omega⟩)
        rcases hj with hj | hj
        · exact hj.elim
        · have h1 : W2.heap.size ≤ j := hj.1
          have h2 : j < w3.heap.size := hj.2
          exact ⟨by omega, by omega⟩
      · have hr5 := HR4.out.keep hb45
        refine hr5.ex HEx.out (fun j cs t fr hj hc => ?_)
        rw [hj, HX5.out] at hc
        injection hc with hc
        injection hc with _ hc _
        rw [← hc]
        exact ⟨by decide, by decide, by decide⟩
end Go.Proofs.YthdjmldddjljfaaGreatDoor
namespace Go.Proofs.YthdjmldddjljfaaGreatDoor
open Go.RowKit
attribute [local go_sem ↓] Go.wp_at_zero Go.wp_at_succ

theorem RTree.types {w w' : World} {T : Nat} {S lv : Value} {F : List (List Nat × ByteArray)} (h : RTree w T S lv F) (same : ∀ (k : Nat) (cs : Array Value) (t : TypeId) (fr : Nat × Nat), w.heap[k]? = some (.cells cs t fr) → (t = 77 ∨ t = 118 ∨ t = 3) → w'.heap[k]? = some (.cells cs t fr)) : RTree w' T S lv F := by
  refine ⟨same _ _ _ _ h.box (.inl rfl), h.list.imp id (fun h => ⟨h.1, ?_⟩)⟩
  obtain ⟨css, h1, h2⟩ := h.2
  refine ⟨css, own_far h1 (fun g hg hl => ?_), h2.mono (fun _ _ h => h.keep (fun g cur hg => same g _ _ _ hg (.inr (.inr rfl))))⟩
  obtain ⟨_, cur, hc⟩ := ownsRow_type h1 g hg
  rw [hc]
  exact same g _ _ _ hc (.inr (.inl rfl))
theorem KeepH.cells {ok : Nat → Prop} {w w' : World} (h : KeepH ok w w') {k : Nat} {cs : Array Value} {t : TypeId} {fr : Nat × Nat} (hk : w.heap[k]? = some (.cells cs t fr)) (h1 : t ≠ 282) (h2 : t ≠ 285) : w'.heap[k]? = some (.cells cs t fr) :=
  h.other k _ hk (fun cs' t' fr' e => by
    injection e with _ e _
    exact ⟨fun e' => h1 (e.trans e'), fun e' => h2 (e.trans e')⟩)
theorem RTree.keepH {ok : Nat → Prop} {w w' : World} {T : Nat} {S lv : Value} {F : List (List Nat × ByteArray)} (h : RTree w T S lv F) (hk : KeepH ok w w') : RTree w' T S lv F :=
  h.types (fun k cs t fr hc ht => hk.cells hc (by rcases ht with ht | ht | ht <;> rw [ht] <;> decide) (by rcases ht with ht | ht | ht <;> rw [ht] <;> decide))
theorem two_boxes (w : World) (cs1 cs2 : Array Value) (t1 t2 : TypeId) : ((w.alloc (.cells cs1 t1)).alloc (.cells cs2 t2)).heap[w.heap.size]? = some (.cells cs1 t1 (0, 0)) ∧ ((w.alloc (.cells cs1 t1)).alloc (.cells cs2 t2)).heap[w.heap.size + 1]? = some (.cells cs2 t2 (0, 0)) ∧ Below w.heap.size w ((w.alloc (.cells cs1 t1)).alloc (.cells cs2 t2)) := by
  refine ⟨(Below.heap_alloc (w.alloc (.cells cs1 t1)) (.cells cs2 t2) w.heap.size (by simp)).trans (heap_alloc_new w _), ?_, (below_alloc w _).alloc (by simp) _⟩
  have h := heap_alloc_new (w.alloc (.cells cs1 t1)) (.cells cs2 t2)
  rwa [World.size_alloc] at h
/-- an Op that asks -/
def askO (kind : Int) (s : ByteArray) : Value := .agg #[.int .i64 kind, .int .i64 0, .string s, .int .i64 0, .slice none 0 0, .slice none 0 0]
set_option maxHeartbeats 4000000 in
set_option maxRecDepth 20000 in
theorem asks_get (ok : Nat → Prop) (B T R : Nat) (st S lv : Value) (n : Nd) (k v : ByteArray) (w : World) (hA : TreeAt HkC ok w T st n) (hO : TOk n) (hl : n.look (pathN k) = v) (hv : v.size ≠ 0) (hR : RTree w R S lv [(pathN k, v)]) (hk : k.size ≤ 64) :
    Calls Tryz.prog 16 #[.pointer (some ⟨B, 0, none⟩), .agg #[ptr T, ptr R], askO 3 k] w fun e w' => e = .returned (.bool true) ∧ Below w.heap.size w w' := by
  have hG := fun W (hW : Below w.heap.size w W) => cGet_any HkC ok T st n k W (hA.keep hW) hO hk
  have hE : gotE (n.look (pathN k)) = .returned (.tuple #[.string v, .int .i64 0]) := gotE_yes hl hv
  rw [hE] at hG
  have HG := hide hG
  have HR := hide (fun W (hW : Below w.heap.size w W) => refGet_one S lv R k v W (hR.keep hW) hk)
  have HU := hide num_any
  clear hG hE hA hO hl hv hR hk
  obtain ⟨x4, x5, hb0⟩ := two_boxes w #[.pointer (some ⟨T, 0, none⟩), .pointer (some ⟨R, 0, none⟩)] #[.int .i64 3, .int .i64 0, .string k, .int .i64 0, .slice none 0 0, .slice none 0 0] 51 40
  have HX := hide (And.intro x4 x5)
  have HB0 := hide hb0
  clear x4 x5 hb0
  unfold ptr askO at *
  go_enter Tryz.func16, Tryz.ntmps16
  go_wp2_with fail
  generalize ((w.alloc (.cells #[.pointer (some ⟨T, 0, none⟩), .pointer (some ⟨R, 0, none⟩)] 51)).alloc (.cells #[.int .i64 3, .int .i64 0, .string k, .int .i64 0, .slice none 0 0, .slice none 0 0] 40)) = W0 at *
  refine (HG.out W0 HB0.out).mono ?_
  rintro e w1 ⟨rfl, hb1⟩
  have HB1 : Hid (Below w.heap.size w w1) := HB0.out.trans (hb1.mono HB0.out.size)
  have y4 := (hb1.block _ (Array.getElem?_eq_some_iff.1 HX.out.1).1).trans HX.out.1
  have y5 := (hb1.block _ (Array.getElem?_eq_some_iff.1 HX.out.2).1).trans HX.out.2
  have c41 : w1.cell? ⟨w.heap.size, 1, none⟩ = some (.pointer (some ⟨R, 0, none⟩)) := cell_of_row _ _ 1 _ _ (0, 0) y4
  have c52 : w1.cell? ⟨w.heap.size + 1, 2, none⟩ = some (.string k) := cell_of_row _ _ 2 _ _ (0, 0) y5
  clear hb1 y4 y5
  go_wp2_with fail
  refine (HR.out w1 HB1.out).mono ?_
  rintro e w2 ⟨rfl, hb2⟩
  have HB2 : Hid (Below w.heap.size w w2) := HB1.out.trans (hb2.mono HB1.out.size)
  clear hb2 c41 c52
  go_wp2_with fail
  refine (HU.out _ _).mono ?_
  rintro e w3 ⟨rfl, rfl⟩
  go_wp2
  go_ret
  exact ⟨rfl, HB2.out⟩
theorem infoS1 : (Tryz.prog.info? 9).map (fun i => (i.zero, i.size, i.bytes)) = some (some (.string ⟨#[]⟩), 1, 16) := by kernel_rfl
set_option maxHeartbeats 4000000 in
set_option maxRecDepth 20000 in
theorem asks_root (ok : Nat → Prop) (B T R lo m : Nat) (st S lv v x0 r0 x1 r1 rts : Value) (ss : List Value) (n : Nd) (w : World) (hA : TreeAt HkC ok w T st n) (hO : TOk n) (hTb : TbZ w) (hR : RTree w R S lv (n.flat [])) (hs : ∀ z ∈ n.flat [], z.1.length ≤ 128) (hl : (n.flat []).length ≤ 100000000)
    (hB : w.heap[B]? = some (.cells (wCells v x0 r0 x1 r1 rts) 55 (0, 0))) (hown : w.ownsRow lo 9 1 rts m ss) (h3 : 3 ≤ lo) (hlo : lo ≤ B) (hok : ∀ k, ok k → lo ≤ k) (hm : m ≤ 1000000) :
    Calls Tryz.prog 16 #[.pointer (some ⟨B, 0, none⟩), .agg #[ptr T, ptr R], askO 4 ⟨#[]⟩] w fun e w' => e = .returned (.bool true) ∧ Below lo w w' ∧
      (∀ (k : Nat) (cs : Array Value) (t : TypeId) (fr : Nat × Nat), w.heap[k]? = some (.cells cs t fr) → t ≠ 282 → t ≠ 285 → t ≠ 55 → t ≠ 9 → w'.heap[k]? = some (.cells cs t fr)) ∧
      ∃ rts', w'.heap[B]? = some (.cells (wCells v x0 r0 x1 r1 rts') 55 (0, 0)) ∧ w'.ownsRow lo 9 1 rts' (m + 1) (ss ++ [.string (rootOf n)]) := by
  obtain ⟨i0, hi, hz0, hz1, hz2⟩ := info_parts infoS1
  obtain ⟨va, vc, rfl⟩ := ownsRow_slice hown
  have HP := hide (fun W (hW : Below w.heap.size w W) => cRoot_any ok T st n W (hA.keep hW) hO (hTb.keep hW) (fun k hk => Nat.le_trans h3 (hok k hk)))
  have HR := hide (fun W W' (hW : Below w.heap.size w W) (hW' : KeepH ok W W') => rRoot_any R S lv n W' ((hR.keep hW).keepH hW') hO.cb hs hl)
  have HBx := hide hB
  have HO := hide hown
  have HBl : Hid (B < w.heap.size) := (Array.getElem?_eq_some_iff.1 hB).1
  have HOk := hide hok
  clear hA hO hTb hR hs hl hB hown hok
  obtain ⟨x4, x5, hb0⟩ := two_boxes w #[.pointer (some ⟨T, 0, none⟩), .pointer (some ⟨R, 0, none⟩)] #[.int .i64 4, .int .i64 0, .string ⟨#[]⟩, .int .i64 0, .slice none 0 0, .slice none 0 0] 51 40
  have HX := hide (And.intro x4 x5)
  have HB0 := hide hb0
  clear x4 x5 hb0
  unfold ptr askO at *
  go_enter Tryz.func16, Tryz.ntmps16
  go_wp2_with fail
  generalize ((w.alloc (.cells #[.pointer (some ⟨T, 0, none⟩), .pointer (some ⟨R, 0, none⟩)] 51)).alloc (.cells #[.int .i64 4, .int .i64 0, .string ⟨#[]⟩, .int .i64 0, .slice none 0 0, .slice none 0 0] 40)) = W0 at *
  refine (HP.out W0 HB0.out).mono ?_
  rintro e w1 ⟨rfl, hk1⟩
  have HK1 := hide hk1
  have y4 := hk1.cells HX.out.1 (by decide) (by decide)
  have c41 : w1.cell? ⟨w.heap.size, 1, none⟩ = some (.pointer (some ⟨R, 0, none⟩)) := cell_of_row _ _ 1 _ _ (0, 0) y4
  clear hk1 y4
  go_wp2_with fail
  refine (HR.out W0 w1 HB0.out HK1.out).mono ?_
  rintro e w2 ⟨rfl, hb2⟩
  have HB2 := hide hb2
  clear hb2 c41
  -- what was there before is there
  have HC2 : Hid (∀ (k : Nat) (cs : Array Value) (t : TypeId) (fr : Nat × Nat), w.heap[k]? = some (.cells cs t fr) → t ≠ 282 → t ≠ 285 → w2.heap[k]? = some (.cells cs t fr)) := fun k cs t fr hk h1 h2 => by
    have a := (HB0.out.block k (Array.getElem?_eq_some_iff.1 hk).1).trans hk
    have b := HK1.out.cells a h1 h2
    exact (HB2.out.block k (Array.getElem?_eq_some_iff.1 b).1).trans b
  have s0 := HB0.out.size
  have s1 := HK1.out.size
  have s2 := HB2.out.size
  have HBl2 : Hid (Below lo w w2) := ((HB0.out.mono (by have := HBl.out; omega)).trans (HK1.out.below (by have := HBl.out; omega) HOk.out)).trans (HB2.out.mono (by have := HBl.out; omega))
  have hBx2 := HC2.out B _ _ _ HBx.out (by decide) (by decide)
  have c10 : w2.cell? ⟨B, 10, none⟩ = some (.slice va m vc) := cell_of_row _ _ 10 _ _ (0, 0) hBx2
  have f10 : w2.frozen? ⟨B, 10, none⟩ = false := frozen_of_row _ _ 10 _ _ hBx2
  have hown2 : w2.ownsRow lo 9 1 (.slice va m vc) m ss := own_far HO.out (fun g hg hl => by
    obtain ⟨_, cur, hc⟩ := ownsRow_type HO.out g hg
    rw [hc]
    exact HC2.out g _ _ _ hc (by decide) (by decide))
  have hbv : some B ≠ (Value.slice va m vc).ownBlock := fun e => by
    obtain ⟨_, cur, hc⟩ := ownsRow_type hown2 B e.symm
    rw [hBx2] at hc
    injection hc with hc
    injection hc with _ hc _
    exact absurd hc (by decide)
  have HBv := hide hbv
  have HO2 := hide hown2
  have HO3 := hide (hown2.alloc (.cells #[.string (rootOf n)] 9))
  have HNews : Hid (∀ j u, [Value.string (rootOf n)][j]? = some u → (w2.alloc (.cells #[.string (rootOf n)] 9)).cell? ((⟨w2.heap.size, 0, none⟩ : Addr).add j) = some u) := World.news_of_block (heap_alloc_new w2 (.cells #[.string (rootOf n)] 9))
  have HLo : Hid (lo ≤ (w2.alloc (.cells #[.string (rootOf n)] 9)).heap.size) := by show _ ≤ _; have := HBl.out; simp; omega
  have HBx2 := hide hBx2
  have HBl3 : Hid (B < w2.heap.size) := by show _ < _; have := HBl.out; omega
  have HY : Hid (∀ w4 : World, (w2.alloc (.cells #[.string (rootOf n)] 9)).grownBy w4 (Value.slice va m vc).ownBlock → w4.cell? ⟨B, 10, none⟩ = some (.slice va m vc) ∧ w4.frozen? ⟨B, 10, none⟩ = false) := fun w4 h => by
    have hb4 : w4.heap[B]? = w2.heap[B]? := by rw [h.block B (by have := HBl3.out; simp; omega) HBv.out, Below.heap_alloc _ _ _ HBl3.out]
    exact ⟨(World.cell?_of_block hb4).trans c10, (World.frozen?_of_block hb4).trans f10⟩
  clear s0 s1 s2 hBx2 hown2 hbv
  go_wp2_with (at_builtin; go_must (refine wpList_append_lies _ rfl (.tmp 59) (.tmp 61) 38 rfl lo 9 i0 _ 1 16 Tryz.underlying38 hi hz0 hz1 hz2 rfl (by omega) (.slice va m vc) m _ rfl HO3.out ⟨w2.heap.size, 0, none⟩ 1 1 [.string (rootOf n)] rfl rfl HNews.out (by simp [Value.oneCell']) (by omega) (by unfold maxLen; omega) (by omega) HLo.out _ rfl ?_); intro g4 c4 w4 ho4 hg4 hat4 hlt4; go_must (have HX4 := hide (And.intro ho4 hg4)); clear ho4 hg4 hat4 hlt4; go_must (obtain ⟨y54, f54⟩ := HY.out w4 HX4.out.2))
  go_ret
  have hBx4 : w4.heap[B]? = some (.cells (wCells v x0 r0 x1 r1 (.slice va m vc)) 55 (0, 0)) := by
    rw [HX4.out.2.block B (by have := HBl3.out; simp; omega) HBv.out, Below.heap_alloc _ _ _ HBl3.out]
    exact HBx2.out
  have hlo2 : lo ≤ w2.heap.size := by have := HBl3.out; omega
  refine ⟨rfl, ?_, fun k cs t fr hk h1 h2 h3 h4 => ?_, _, heap_setCell_same w4 B 10 _ 55 _ hBx4, ?_⟩
  · have hb24 : Below lo w2 w4 := ((below_alloc w2 _).mono hlo2).grown HX4.out.2 HLo.out (own_ge HO3.out (Nat.le_refl _))
    exact (HBl2.out.trans hb24).setCell (p := ⟨B, 10, none⟩) hlo _
  · have a := HC2.out k cs t fr hk h1 h2
    have hkl := (Array.getElem?_eq_some_iff.1 a).1
    have hkB : k ≠ B := fun e => by
      rw [e, HBx2.out] at a
      injection a with a
      injection a with _ a _
      exact h3 a.symm
    rw [heap_setCell_other _ _ _ _ (by exact hkB), HX4.out.2.block k (by simp; omega) (fun e => by
      obtain ⟨_, cur, hc⟩ := ownsRow_type HO2.out k e.symm
      rw [a] at hc
      injection hc with hc
      injection hc with _ hc _
      exact h4 hc), Below.heap_alloc _ _ _ hkl]
    exact a
  · refine own_far HX4.out.1 (fun g hg hl => ?_)
    obtain ⟨_, cur, hc⟩ := ownsRow_type HX4.out.1 g hg
    rw [heap_setCell_other _ _ _ _ (fun e => by
      have e : g = B := e
      rw [e, hBx4] at hc
      injection hc with hc
      injection hc with _ hc _
      exact absurd hc (by decide))]
end Go.Proofs.YthdjmldddjljfaaGreatDoor
namespace Go.Proofs.YthdjmldddjljfaaGreatDoor
open Go.RowKit
attribute [local go_sem ↓] Go.wp_at_zero Go.wp_at_succ

set_option maxHeartbeats 4000000 in
set_option maxRecDepth 20000 in
theorem step_put (B T R P : Nat) (st S vv x1 r1 rts : Value) (k v : ByteArray) (w : World) (hB : w.heap[B]? = some (.cells (wCells vv (ptr T) (ptr R) x1 r1 rts) 55 (0, 0))) (hA : TreeAt HkC (fun _ => False) w T st .nil) (hR : RTree w R S (.slice none 0 0) []) (hp : w.heap[P]? = some (.cells #[.string k, .string v] 33 (0, 0))) (hk : k.size ≤ 64) (hv : v.size ≠ 0) (hv2 : v.size ≤ 400) :
    Calls Tryz.prog 14 #[.pointer (some ⟨B, 0, none⟩), .agg #[.int .i64 1, .int .i64 0, .string ⟨#[]⟩, .int .i64 0, .slice (some ⟨P, 0, none⟩) 1 1, .slice none 0 0]] w fun e w' =>
      e = .returned (.bool true) ∧ Ex (fun j => j = T ∨ j = R) w w' ∧ TreeAt HkC (fun j => w.heap.size ≤ j ∧ j < w'.heap.size) w' T st (setAll .nil [(k, v)]) ∧ ∃ rv, RTree w' R S rv [(pathN k, v)] := by
  have hT := hA.lt
  have HC := hide (fun W (hW : Below w.heap.size w W) => changes_put B T R P st S k v W (hA.keep hW) (hR.keep hW) ((hW.block P (Array.getElem?_eq_some_iff.1 hp).1).trans hp) hk hv hv2)
  obtain ⟨z3, z6, hb0⟩ := two_boxes w #[.int .i64 1, .int .i64 0, .string ⟨#[]⟩, .int .i64 0, .slice (some ⟨P, 0, none⟩) 1 1, .slice none 0 0] #[.pointer (some ⟨T, 0, none⟩), .pointer (some ⟨R, 0, none⟩)] 40 51
  have HB0 := hide hb0
  have HT := hide hT
  have hlt := (Array.getElem?_eq_some_iff.1 hB).1
  have y6 : w.cell? ⟨B, 6, none⟩ = some (.pointer (some ⟨T, 0, none⟩)) := cell_of_row _ _ 6 _ _ (0, 0) hB
  have y7 : w.cell? ⟨B, 7, none⟩ = some (.pointer (some ⟨R, 0, none⟩)) := cell_of_row _ _ 7 _ _ (0, 0) hB
  have q6 : ∀ o, (w.alloc o).cell? ⟨B, 6, none⟩ = some (.pointer (some ⟨T, 0, none⟩)) := fun o => by rw [World.cell?_alloc_lt _ _ _ hlt]; exact y6
  have q7 : ∀ o, (w.alloc o).cell? ⟨B, 7, none⟩ = some (.pointer (some ⟨R, 0, none⟩)) := fun o => by rw [World.cell?_alloc_lt _ _ _ hlt]; exact y7
  clear hB hA hR hp hk hv hv2 hb0 hT y6 y7 z3 z6
  unfold ptr at *
  go_enter Tryz.func14, Tryz.ntmps14
  go_wp2_with fail
  refine (HC.out _ HB0.out).mono ?_
  rintro e w1 ⟨rfl, h1, h2, rv, h3⟩
  have HX := hide (And.intro h1 (And.intro h2 h3))
  clear h1 h2 h3
  go_wp2
  go_ret
  obtain ⟨h1, h2, h3⟩ := HX.out
  have hs := HB0.out.size
  refine ⟨rfl, (Ex.of_below HB0.out).trans h1, h2.mono (fun j hj => ⟨by omega, hj.2⟩) (fun j hj => ⟨hj.2, by have := HT.out; omega⟩), rv, h3⟩
set_option maxHeartbeats 4000000 in
set_option maxRecDepth 20000 in
theorem step_get (ok : Nat → Prop) (B T R : Nat) (st S lv vv x1 r1 rts : Value) (n : Nd) (k v : ByteArray) (w : World) (hB : w.heap[B]? = some (.cells (wCells vv (ptr T) (ptr R) x1 r1 rts) 55 (0, 0))) (hA : TreeAt HkC ok w T st n) (hO : TOk n) (hl : n.look (pathN k) = v) (hv : v.size ≠ 0) (hR : RTree w R S lv [(pathN k, v)]) (hk : k.size ≤ 64) :
    Calls Tryz.prog 14 #[.pointer (some ⟨B, 0, none⟩), askO 3 k] w fun e w' => e = .returned (.bool true) ∧ Below w.heap.size w w' := by
  have hT := hA.lt
  have HC := hide (fun W (hW : Below w.heap.size w W) => asks_get ok B T R st S lv n k v W (hA.keep hW) hO hl hv (hR.keep hW) hk)
  obtain ⟨z3, z6, hb0⟩ := two_boxes w #[.int .i64 3, .int .i64 0, .string k, .int .i64 0, .slice none 0 0, .slice none 0 0] #[.pointer (some ⟨T, 0, none⟩), .pointer (some ⟨R, 0, none⟩)] 40 51
  have HB0 := hide hb0
  have hlt := (Array.getElem?_eq_some_iff.1 hB).1
  have y6 : w.cell? ⟨B, 6, none⟩ = some (.pointer (some ⟨T, 0, none⟩)) := cell_of_row _ _ 6 _ _ (0, 0) hB
  have y7 : w.cell? ⟨B, 7, none⟩ = some (.pointer (some ⟨R, 0, none⟩)) := cell_of_row _ _ 7 _ _ (0, 0) hB
  have q6 : ∀ o, (w.alloc o).cell? ⟨B, 6, none⟩ = some (.pointer (some ⟨T, 0, none⟩)) := fun o => by rw [World.cell?_alloc_lt _ _ _ hlt]; exact y6
  have q7 : ∀ o, (w.alloc o).cell? ⟨B, 7, none⟩ = some (.pointer (some ⟨R, 0, none⟩)) := fun o => by rw [World.cell?_alloc_lt _ _ _ hlt]; exact y7
  clear hB hA hO hl hv hR hk hb0 hT y6 y7 z3 z6
  unfold ptr askO at *
  go_enter Tryz.func14, Tryz.ntmps14
  go_wp2_with fail
  refine (HC.out _ HB0.out).mono ?_
  rintro e w1 ⟨rfl, h1⟩
  have HX := hide h1
  clear h1
  go_wp2
  go_ret
  exact ⟨rfl, HB0.out.trans (HX.out.mono HB0.out.size)⟩
end Go.Proofs.YthdjmldddjljfaaGreatDoor
namespace Go.Proofs.YthdjmldddjljfaaGreatDoor
open Go.RowKit

/-- a pair, laid into the list of those that are left -/
def stepM (m : List Pr) (p : Pr) : List Pr := m.filter (fun q => decide (q.1 ≠ p.1)) ++ (if p.2.size = 0 then [] else [p])

structure RelM (n : Nd) (m : List Pr) : Prop where
  nd : (m.map Prod.fst).Nodup
  sz : ∀ p ∈ m, p.1.size ≤ 64 ∧ p.2.size ≠ 0
  lk : ∀ x : List Nat × ByteArray, (n.look x.1 = x.2 ∧ x.2.size ≠ 0) ↔ ∃ p ∈ m, x = (pathN p.1, p.2)

theorem RelM.nil : RelM .nil [] where
  nd := List.nodup_nil
  sz := fun p h => by cases h
  lk := fun x => by
    constructor
    · rintro ⟨h, h2⟩
      rw [← h] at h2
      exact absurd rfl h2
    · rintro ⟨p, h, _⟩; cases h

theorem stepM_mem (m : List Pr) (p q : Pr) : q ∈ stepM m p ↔ (q ∈ m ∧ q.1 ≠ p.1) ∨ (q = p ∧ p.2.size ≠ 0) := by
  unfold stepM
  rw [List.mem_append, List.mem_filter]
  by_cases h : p.2.size = 0
  · simp [h]
  · simp [h]

theorem RelM.step {n : Nd} {m : List Pr} (h : RelM n m) (hO : TOk n) {p : Pr} (hp : p.1.size ≤ 64) : RelM (n.set (pathN p.1) p.2) (stepM m p) where
  nd := by
    unfold stepM
    rw [List.map_append, List.nodup_append]
    refine ⟨?_, ?_, ?_⟩
    · exact List.Nodup.sublist (List.Sublist.map _ List.filter_sublist) h.nd
    · split <;> simp
    · intro a ha b hb
      obtain ⟨q, hq, rfl⟩ := List.mem_map.1 ha
      have hq2 := (List.mem_filter.1 hq).2
      split at hb
      · simp at hb
      · simp at hb
        subst hb
        simpa using hq2
  sz := fun q hq => by
    rcases (stepM_mem m p q).1 hq with ⟨h1, _⟩ | ⟨rfl, h2⟩
    · exact h.sz q h1
    · exact ⟨hp, h2⟩
  lk := fun x => by
    rw [look_set hO.wf (pathN_lt _)]
    by_cases hx : pathN p.1 = x.1
    · rw [if_pos hx]
      constructor
      · rintro ⟨h1, h2⟩
        exact ⟨p, (stepM_mem m p p).2 (.inr ⟨rfl, by rw [h1]; exact h2⟩), Prod.ext hx.symm h1.symm⟩
      · rintro ⟨q, hq, rfl⟩
        rcases (stepM_mem m p q).1 hq with ⟨_, h2⟩ | ⟨rfl, h2⟩
        · exact absurd (key_inj hx).symm h2
        · exact ⟨rfl, h2⟩
    · rw [if_neg hx, h.lk x]
      constructor
      · rintro ⟨q, hq, rfl⟩
        exact ⟨q, (stepM_mem m p q).2 (.inl ⟨hq, fun e => hx (by rw [e])⟩), rfl⟩
      · rintro ⟨q, hq, rfl⟩
        rcases (stepM_mem m p q).1 hq with ⟨h1, _⟩ | ⟨rfl, _⟩
        · exact ⟨q, h1, rfl⟩
        · exact absurd rfl hx

theorem Fs_sorted : ∀ (k : Nat) (ps : List Pr), ps.length = k → (ps.map Prod.fst).Nodup → (Fs ps).Pairwise (fun x y => plt x.1 y.1)
  | 0, ps, hk, _ => by
    obtain rfl := List.length_eq_zero_iff.1 hk
    exact List.Pairwise.nil
  | k + 1, ps, hk, hn => by
    have hne : ps ≠ [] := fun e => by rw [e] at hk; simp at hk
    obtain ⟨qs, q, rfl⟩ : ∃ qs q, ps = qs ++ [q] := ⟨ps.dropLast, ps.getLast hne, (List.dropLast_concat_getLast hne).symm⟩
    rw [List.map_append, List.nodup_append] at hn
    rw [Fs_snoc]
    refine insF_sorted _ _ (Fs_sorted k qs (by simpa using hk) hn.1) fun x hx e => ?_
    obtain ⟨r, hr, rfl⟩ := (Fs_mem qs x).1 hx
    exact hn.2.2 r.1 (List.mem_map.2 ⟨r, hr, rfl⟩) q.1 (by simp) (key_inj e)

theorem RelM.flat {n : Nd} {m : List Pr} (h : RelM n m) (hO : TOk n) : Fs m = n.flat [] :=
  flat_eq hO.wf (Fs_sorted _ m rfl h.nd) fun x => (Fs_mem m x).trans (h.lk x).symm

theorem stepM_len (m : List Pr) (p : Pr) : (stepM m p).length ≤ m.length + 1 := by
  unfold stepM
  rw [List.length_append]
  have := List.length_filter_le (fun q : Pr => decide (q.1 ≠ p.1)) m
  generalize (m.filter (fun q : Pr => decide (q.1 ≠ p.1))).length = a at *
  split
  · show a + 0 ≤ _; omega
  · show a + 1 ≤ _; omega
end Go.Proofs.YthdjmldddjljfaaGreatDoor
namespace Go.Proofs.YthdjmldddjljfaaGreatDoor
open Go.RowKit
attribute [local go_sem ↓] Go.wp_at_zero Go.wp_at_succ

def sA : ByteArray := ⟨#[97]⟩
def sB : ByteArray := ⟨#[98]⟩
def n1 : Nd := setAll .nil [(sA, sB)]
theorem n1_ok : TOk n1 := TOk.nil.setAll [(sA, sB)] (by intro p hp; simp at hp; rw [hp]; decide)
theorem n1_rel : RelM n1 [(sA, sB)] := RelM.nil.step TOk.nil (p := (sA, sB)) (by decide)
theorem n1_flat : n1.flat [] = [(pathN sA, sB)] := (n1_rel.flat n1_ok).symm
theorem n1_look : n1.look (pathN sA) = sB := ((n1_rel.lk (pathN sA, sB)).2 ⟨(sA, sB), by simp, rfl⟩).1

/-- the script's cells -/
def scriptC (P : Nat) : Array Value := #[.int .i64 1, .int .i64 0, .string ⟨#[]⟩, .int .i64 0, .slice (some ⟨P, 0, none⟩) 1 1, .slice none 0 0, .int .i64 3, .int .i64 0, .string ⟨#[97]⟩, .int .i64 0, .slice none 0 0, .slice none 0 0]
structure KS (w0 w : World) (B P Q T0 R0 T1 R1 : Nat) (st1 S1 : Value) (gl : List Nat) : Prop where
  bk : Bk w B w0.heap.size (ptr T0) (ptr R0) (ptr T1) (ptr R1) (.slice none 0 0) gl
  pp : w.heap[P]? = some (.cells #[.string sA, .string sB] 33 (0, 0))
  qq : w.heap[Q]? = some (.cells (scriptC P) 40 (0, 0))
  tb : TbZ w
  bel : Below w0.heap.size w0 w
  t1 : TreeAt HkC (fun _ => False) w T1 st1 .nil
  r1 : RTree w R1 S1 (.slice none 0 0) []
  ge : w0.heap.size ≤ T0 ∧ w0.heap.size ≤ R0 ∧ w0.heap.size ≤ B
  ne : T0 ≠ T1 ∧ R0 ≠ R1
  gll : gl.length ≤ 10
theorem KS.keep {w0 w w' : World} {B P Q T0 R0 T1 R1 : Nat} {st1 S1 : Value} {gl : List Nat} (h : KS w0 w B P Q T0 R0 T1 R1 st1 S1 gl) (hb : Below w.heap.size w w') : KS w0 w' B P Q T0 R0 T1 R1 st1 S1 gl where
  bk := h.bk.keep hb
  pp := (hb.block P (Array.getElem?_eq_some_iff.1 h.pp).1).trans h.pp
  qq := (hb.block Q (Array.getElem?_eq_some_iff.1 h.qq).1).trans h.qq
  tb := h.tb.keep hb
  bel := h.bel.trans (hb.mono h.bel.size)
  t1 := h.t1.keep hb
  r1 := h.r1.keep hb
  ge := h.ge
  ne := h.ne
  gll := h.gll
theorem TbZ.low {w w' : World} (h : TbZ w) (hl : w.heap.size ≤ w'.heap.size) (hb : ∀ k, k < 3 → w'.heap[k]? = w.heap[k]?) : TbZ w' := by
  refine ⟨⟨fun j hj => ?_, fun j hj => ?_⟩, Nat.le_trans h.three hl⟩
  · exact (World.cell?_of_block (w := w) (a := ⟨0, j, none⟩) (hb _ (by show 0 < 3; decide))).trans (h.tabs.rcs j hj)
  · exact (World.cell?_of_block (w := w) (a := ⟨1, j, none⟩) (hb _ (by show 1 < 3; decide))).trans (h.tabs.tus j hj)
/-- trees in memory: their boxes' types tell them from all else -/
theorem KS.put {w0 w w' : World} {B P Q T0 R0 T1 R1 : Nat} {st0 S0 lv0 st1 S1 : Value} {n : Nd} {F : List (List Nat × ByteArray)} {ok : Nat → Prop} {gl : List Nat} (h : KS w0 w B P Q T0 R0 T1 R1 st1 S1 gl) (h3 : 3 ≤ w0.heap.size) (hA : TreeAt HkC ok w T0 st0 n) (hR : RTree w R0 S0 lv0 F) (hx : Ex (fun j => j = T0 ∨ j = R0) w w') : KS w0 w' B P Q T0 R0 T1 R1 st1 S1 gl := by
  have hty : ∀ (j : Nat) (cs : Array Value) (t : TypeId) (fr : Nat × Nat), (j = T0 ∨ j = R0) → w.heap[j]? = some (.cells cs t fr) → t = 71 ∨ t = 77 := fun j cs t fr hj hc => by
    rcases hj with rfl | rfl
    · obtain ⟨u, h1, _⟩ := hA.held
      rw [h1] at hc
      injection hc with hc
      injection hc with _ hc _
      exact .inl hc.symm
    · rw [hR.box] at hc
      injection hc with hc
      injection hc with _ hc _
      exact .inr hc.symm
  have hne : ∀ (j : Nat) (cs : Array Value) (t : TypeId) (fr : Nat × Nat), w.heap[j]? = some (.cells cs t fr) → t ≠ 71 → t ≠ 77 → w'.heap[j]? = some (.cells cs t fr) := fun j cs t fr hc h1 h2 => by
    rw [hx.block j (Array.getElem?_eq_some_iff.1 hc).1 (fun hj => by rcases hty j cs t fr hj hc with e | e; exact h1 e; exact h2 e)]
    exact hc
  obtain ⟨g1, g2, g3⟩ := h.ge
  have hT1 : ¬ (T1 = T0 ∨ T1 = R0) := fun hj => by
    rcases hj with e | e
    · exact h.ne.1 e.symm
    · obtain ⟨u, k1, _⟩ := h.t1.held
      rw [e, hR.box] at k1
      injection k1 with k1
      injection k1 with _ k1 _
      exact absurd k1 (by decide)
  have hR1 : ¬ (R1 = T0 ∨ R1 = R0) := fun hj => by
    rcases hj with e | e
    · obtain ⟨u, k1, _⟩ := hA.held
      rw [← e, h.r1.box] at k1
      injection k1 with k1
      injection k1 with _ k1 _
      exact absurd k1 (by decide)
    · exact h.ne.2 e.symm
  exact {
    bk := h.bk.ex hx (fun j cs t fr hj hc => by
      rcases hty j cs t fr hj hc with e | e <;> rw [e] <;> exact ⟨by decide, by decide, by decide⟩)
    pp := hne P _ _ _ h.pp (by decide) (by decide)
    qq := hne Q _ _ _ h.qq (by decide) (by decide)
    tb := h.tb.low hx.size (fun k hk => hx.block k (by have := h.bel.size; omega) (fun hj => by rcases hj with e | e <;> omega))
    bel := ⟨hx.os.trans h.bel.os, hx.tape.trans h.bel.tape, hx.output.trans h.bel.output, Nat.le_trans h.bel.size hx.size, fun k hk => (hx.block k (Nat.lt_of_lt_of_le hk h.bel.size) (fun hj => by rcases hj with e | e <;> omega)).trans (h.bel.block k hk)⟩
    t1 := h.t1.ex hx hT1 (fun _ h => h.elim)
    r1 := ⟨(hx.block R1 (Array.getElem?_eq_some_iff.1 h.r1.box).1 hR1).trans h.r1.box, .inl ⟨rfl, rfl⟩⟩
    ge := h.ge
    ne := h.ne
    gll := h.gll }
/-- a tree of nothing, whose box stays -/
theorem TreeAt.nil_same {Hk : Nd → ByteArray → Prop} {w w' : World} {T : Nat} {st : Value} (h : TreeAt Hk (fun _ => False) w T st .nil) (hs : ∀ (cs : Array Value), w.heap[T]? = some (.cells cs 71 (0, 0)) → w'.heap[T]? = some (.cells cs 71 (0, 0))) : TreeAt Hk (fun _ => False) w' T st .nil := by
  obtain ⟨u, h1, h2⟩ := h.held
  exact ⟨⟨u, hs _ h1, h2⟩, fun k hk => hk.elim⟩
def put4 (W : World) (B : Nat) (a b c d : Value) : World := ((((W.setCell ⟨B, 6, none⟩ a).setCell ⟨B, 7, none⟩ b).setCell ⟨B, 8, none⟩ c).setCell ⟨B, 9, none⟩ d).drew.drew
theorem ks_start {w W2 : World} {B P Q T0 R0 T1 R1 : Nat} {st0 S0 st1 S1 : Value} {gl : List Nat} (hb : Below w.heap.size w W2) (hBk : Bk W2 B w.heap.size (.pointer none) (.pointer none) (.pointer none) (.pointer none) (.slice none 0 0) gl) (hTb : TbZ w) (hP : w.heap[P]? = some (.cells #[.string sA, .string sB] 33 (0, 0))) (hQ : w.heap[Q]? = some (.cells (scriptC P) 40 (0, 0)))
    (t0 : TreeAt HkC (fun _ => False) W2 T0 st0 .nil) (r0 : W2.heap[R0]? = some (.cells #[S0, .slice none 0 0] 77 (0, 0))) (t1 : TreeAt HkC (fun _ => False) W2 T1 st1 .nil) (r1 : W2.heap[R1]? = some (.cells #[S1, .slice none 0 0] 77 (0, 0)))
    (ge : w.heap.size ≤ T0 ∧ w.heap.size ≤ R0 ∧ w.heap.size ≤ B) (ne : T0 ≠ T1 ∧ R0 ≠ R1) (gll : gl.length ≤ 10) :
    KS w (put4 W2 B (ptr T0) (ptr R0) (ptr T1) (ptr R1)) B P Q T0 R0 T1 R1 st1 S1 gl ∧ TreeAt HkC (fun _ => False) (put4 W2 B (ptr T0) (ptr R0) (ptr T1) (ptr R1)) T0 st0 .nil ∧ RTree (put4 W2 B (ptr T0) (ptr R0) (ptr T1) (ptr R1)) R0 S0 (.slice none 0 0) [] := by
  have hex : Ex (fun j => j = B) W2 (put4 W2 B (ptr T0) (ptr R0) (ptr T1) (ptr R1)) :=
    (((((Ex.of_below (X := fun j => j = B) (Below.refl W2.heap.size W2)).set (p := ⟨B, 6, none⟩) (.inl rfl) (ptr T0)).set (p := ⟨B, 7, none⟩) (.inl rfl) (ptr R0)).set (p := ⟨B, 8, none⟩) (.inl rfl) (ptr T1)).set (p := ⟨B, 9, none⟩) (.inl rfl) (ptr R1)).trans (Ex.of_below ((Below.refl _ _).drew.drew))
  obtain ⟨v, hv, hown⟩ := hBk.box
  have hty : ∀ (k : Nat) (cs : Array Value) (t : TypeId) (fr : Nat × Nat), W2.heap[k]? = some (.cells cs t fr) → t ≠ 55 → (put4 W2 B (ptr T0) (ptr R0) (ptr T1) (ptr R1)).heap[k]? = some (.cells cs t fr) := fun k cs t fr hk ht => by
    rw [hex.block k (Array.getElem?_eq_some_iff.1 hk).1 (fun e => by
      rw [e, hv] at hk
      injection hk with hk
      injection hk with _ hk _
      exact ht hk.symm)]
    exact hk
  have hbox : (put4 W2 B (ptr T0) (ptr R0) (ptr T1) (ptr R1)).heap[B]? = some (.cells (wCells v (ptr T0) (ptr R0) (ptr T1) (ptr R1) (.slice none 0 0)) 55 (0, 0)) :=
    heap_setCell_same _ B 9 _ 55 _ (heap_setCell_same _ B 8 _ 55 _ (heap_setCell_same _ B 7 _ 55 _ (heap_setCell_same W2 B 6 _ 55 (ptr T0) hv)))
  have hbel : Below w.heap.size w (put4 W2 B (ptr T0) (ptr R0) (ptr T1) (ptr R1)) := ⟨hex.os.trans hb.os, hex.tape.trans hb.tape, hex.output.trans hb.output, Nat.le_trans hb.size hex.size, fun k hk => (hex.block k (Nat.lt_of_lt_of_le hk hb.size) (fun e => by have := ge.2.2; omega)).trans (hb.block k hk)⟩
  refine ⟨{
    bk := ⟨⟨v, hbox, own_far hown (fun g hg hl => by
      obtain ⟨_, cur, hc⟩ := ownsRow_type hown g hg
      rw [hc]
      exact hty g _ _ _ hc (by decide))⟩, fun i hi => hty _ _ _ _ (hBk.rows i hi) (by decide)⟩
    pp := (hbel.block P (Array.getElem?_eq_some_iff.1 hP).1).trans hP
    qq := (hbel.block Q (Array.getElem?_eq_some_iff.1 hQ).1).trans hQ
    tb := hTb.keep hbel
    bel := hbel
    t1 := t1.nil_same (fun cs hc => hty _ _ _ _ hc (by decide))
    r1 := ⟨hty _ _ _ _ r1 (by decide), .inl ⟨rfl, rfl⟩⟩
    ge := ge
    ne := ne
    gll := gll }, t0.nil_same (fun cs hc => hty _ _ _ _ hc (by decide)), ⟨hty _ _ _ _ r0 (by decide), .inl ⟨rfl, rfl⟩⟩⟩
end Go.Proofs.YthdjmldddjljfaaGreatDoor
