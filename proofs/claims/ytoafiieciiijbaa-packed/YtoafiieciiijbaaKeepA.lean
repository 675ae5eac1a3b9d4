/-
  OUR OWN: the walk of canopykeep.coded: the document's examples of codes.
-/
import Derived.Test.YtoafiieciiijbaaEncG
import Derived.Test.YtoafiieciiijbaaDecF
import Derived.Test.YtoafiieciiijbaaPathI2
namespace Go.Proofs.Ytoafiieciiijbaa
open Go.RowKit
attribute [local go_sem ↓] Go.wp_at_zero Go.wp_at_succ

def exPs : List IPrt := [(true, 2, ⟨#[]⟩), (false, 0, ⟨#[99, 97, 116]⟩), (false, 0, ⟨#[100, 111, 103]⟩)]
def exA : ByteArray := ⟨#[200, 131, 99, 97, 116, 131, 100, 111, 103]⟩
theorem ex_enc : encP exPs = (exA, 0) := by decide +kernel
theorem ex_dec : (outOf (decN exA), errOf (decN exA)) = ([(true, 2, ⟨#[]⟩), (false, 0, ⟨#[99, 97, 116]⟩), (false, 0, ⟨#[100, 111, 103]⟩)], 0) := by decide +kernel
theorem ex_pack : packR false [1, 2, 3, 4, 5] = (⟨#[17, 35, 69]⟩, 0) := by decide +kernel
theorem ex_unp : unpL [17, 35, 69] = some ([1, 2, 3, 4, 5], false) := by decide +kernel

theorem ex_iprts (w : World) : IPrts (w.alloc (.cells #[.bool true, .int .i64 2, .string ⟨#[]⟩, .bool false, .int .i64 0, .string ⟨#[99, 97, 116]⟩, .bool false, .int .i64 0, .string ⟨#[100, 111, 103]⟩] 24)) (some ⟨w.heap.size, 0, none⟩) exPs := by
  intro k hk
  have hc := fun j => cell_of_row _ w.heap.size j _ _ (0, 0) (heap_alloc_new w (.cells #[.bool true, .int .i64 2, .string ⟨#[]⟩, .bool false, .int .i64 0, .string ⟨#[99, 97, 116]⟩, .bool false, .int .i64 0, .string ⟨#[100, 111, 103]⟩] 24))
  refine ⟨w.heap.size, 0, rfl, ?_⟩
  rw [hc, hc, hc]
  match k, hk with
  | 0, _ => exact ⟨rfl, rfl, rfl⟩
  | 1, _ => exact ⟨rfl, rfl, rfl⟩
  | 2, _ => exact ⟨rfl, rfl, rfl⟩
theorem ex_ints (w : World) : Ints (w.alloc (.cells #[.int .i64 1, .int .i64 2, .int .i64 3, .int .i64 4, .int .i64 5] 3)) (some ⟨w.heap.size, 0, none⟩) [1, 2, 3, 4, 5] := by
  refine .inr ⟨w.heap.size, 0, rfl, fun j hj => ?_⟩
  rw [cell_of_row _ w.heap.size (0 + j) _ _ (0, 0) (heap_alloc_new w _)]
  match j, hj with
  | 0, _ => rfl
  | 1, _ => rfl
  | 2, _ => rfl
  | 3, _ => rfl
  | 4, _ => rfl

set_option maxHeartbeats 2000000 in
set_option maxRecDepth 20000 in
theorem coded_any (w : World) :
    Calls Try.prog 22 #[] w fun e w' => e = .returned (.bool true) ∧ Below w.heap.size w w' := by
  have HE : Hid (Calls Try.prog 8 #[.slice (some ⟨w.heap.size, 0, none⟩) 3 3] (w.alloc (.cells #[.bool true, .int .i64 2, .string ⟨#[]⟩, .bool false, .int .i64 0, .string ⟨#[99, 97, 116]⟩, .bool false, .int .i64 0, .string ⟨#[100, 111, 103]⟩] 24)) fun e w' => e = .returned (.tuple #[.string exA, .int .i64 0]) ∧ Below w.heap.size w w') := by
    have h := cEncode_any (some ⟨w.heap.size, 0, none⟩) 3 exPs _ (by decide) (ex_iprts w) (by decide +kernel)
    rw [ex_enc] at h
    refine h.mono ?_
    rintro e w' ⟨rfl, hb⟩
    exact ⟨rfl, (below_alloc w _).trans (hb.mono (by simp))⟩
  have HD : Hid (∀ W : World, Calls Try.prog 11 #[.string exA] W fun e w' => ∃ g c, e = .returned (.tuple #[.slice (some ⟨g, 0, none⟩) 3 c, .int .i64 0]) ∧ W.heap.size ≤ g ∧ g < w'.heap.size ∧ (w'.cell? ⟨g, 0, none⟩ = some (.bool true) ∧ w'.cell? ⟨g, 1, none⟩ = some (.int .i64 2) ∧ w'.cell? ⟨g, 8, none⟩ = some (.string ⟨#[100, 111, 103]⟩)) ∧ Below W.heap.size W w') := by
    intro W
    refine (cDecode_any exA W (by decide +kernel)).mono ?_
    intro e w' h
    obtain ⟨ao, c, he, ho, hb⟩ := h.form
    have e1 := congrArg Prod.fst ex_dec
    have e2 := congrArg Prod.snd ex_dec
    simp only at e1 e2
    rw [e1, e2] at he
    rw [e1] at ho
    rcases ho.2 with ⟨h', _⟩ | ⟨g, c', cur, h', _⟩
    · simp at h'
    · obtain ⟨rfl, rfl⟩ : ao = some ⟨g, 0, none⟩ ∧ c = c' := by simpa using h'
      have hl := ho.lt g rfl
      refine ⟨g, c, he, hl.1, hl.2, ⟨?_, ?_, ?_⟩, hb⟩
      · rw [ho.cellAt 0 (by decide)]; rfl
      · rw [ho.cellAt 1 (by decide)]; rfl
      · rw [ho.cellAt 8 (by decide)]; rfl
  have HP : Hid (∀ W : World, Calls Try.prog 16 #[.slice (some ⟨W.heap.size, 0, none⟩) 5 5, .bool false] (W.alloc (.cells #[.int .i64 1, .int .i64 2, .int .i64 3, .int .i64 4, .int .i64 5] 3)) fun e w' => e = .returned (.tuple #[.string ⟨#[17, 35, 69]⟩, .int .i64 0]) ∧ Below W.heap.size W w') := by
    intro W
    have h := cPack_any (some ⟨W.heap.size, 0, none⟩) 5 [1, 2, 3, 4, 5] false _ (by decide) (ex_ints W) (fun h => by cases h)
    rw [ex_pack] at h
    refine h.mono ?_
    rintro e w' ⟨rfl, hb⟩
    exact ⟨rfl, (below_alloc W _).trans (hb.mono (by simp))⟩
  have HU : Hid (∀ W : World, Calls Try.prog 19 #[.string ⟨#[17, 35, 69]⟩] W fun e w' => ∃ g o, e = .returned (.tuple #[.slice (some ⟨g, o, none⟩) 5 5, .bool false, .int .i64 0]) ∧ w'.cell? ⟨g, o + 4, none⟩ = some (.int .i64 5) ∧ Below W.heap.size W w') := by
    intro W
    refine (cUnpack_some ⟨#[17, 35, 69]⟩ W [1, 2, 3, 4, 5] false ex_unp).mono ?_
    rintro e w' ⟨g, o, rfl, hf, _, hb⟩
    refine ⟨g, o, rfl, ?_, hb⟩
    obtain ⟨cur, h1, _, h3⟩ := hf
    rw [cell_of_row w' g (o + 4) _ _ (0, 0) h1]
    exact h3 4 (by decide)
  unfold exA at *
  go_enter Try.func22, Try.ntmps22
  go_wp2_with fail
  refine HE.out.mono ?_
  rintro e w1 ⟨rfl, hb1⟩
  have HB1 := hide hb1
  clear hb1
  go_wp2_with fail
  refine (HD.out w1).mono ?_
  rintro e w2 ⟨g, c, rfl, hg1, hg2, hd, hb2⟩
  have HB2 : Hid (Below w.heap.size w w2) := HB1.out.trans (hb2.mono HB1.out.size)
  have HG := hide (And.intro hg1 (And.intro hg2 hd))
  clear hb2 hg1 hg2 hd
  go_wp2_with fail
  refine (HP.out w2).mono ?_
  rintro e w3 ⟨rfl, hb3⟩
  have HB3 : Hid (Below w.heap.size w w3) := HB2.out.trans (hb3.mono HB2.out.size)
  have HK3 := hide hb3
  clear hb3
  go_wp2_with fail
  refine (HU.out w3).mono ?_
  rintro e w4 ⟨g4, o4, rfl, u4, hb4⟩
  have HB4 : Hid (Below w.heap.size w w4) := HB3.out.trans (hb4.mono HB3.out.size)
  have hK4 : w4.heap[g]? = w2.heap[g]? := (hb4.block g (Nat.lt_of_lt_of_le HG.out.2.1 HK3.out.size)).trans (HK3.out.block g HG.out.2.1)
  have d0 := (World.cell?_of_block (w := w2) (a := ⟨g, 0, none⟩) hK4).trans HG.out.2.2.1
  have d1 := (World.cell?_of_block (w := w2) (a := ⟨g, 1, none⟩) hK4).trans HG.out.2.2.2.1
  have d2 := (World.cell?_of_block (w := w2) (a := ⟨g, 8, none⟩) hK4).trans HG.out.2.2.2.2
  clear hb4 hK4
  go_wp2
  go_ret
  exact ⟨rfl, HB4.out⟩
end Go.Proofs.Ytoafiieciiijbaa
