/-
  OUR OWN: Unpack, both: what they answer, by one plain function.
-/
import Derived.Test.YtoafiieciiijbaaPathH
namespace Go.Proofs.Ytoafiieciiijbaa
open Go.RowKit

/-- the path and the mark that bytes are the code of -/
def unpL : List UInt8 → Option (List Int × Bool)
  | [] => none
  | b :: r => if b.toNat / 16 % 2 = 1 then (if b.toNat / 16 ≤ 3 ∧ r.length ≤ 63 then some (((b.toNat : Int) % 16) :: nibs r, decide (2 ≤ b.toNat / 16)) else none)
    else (if b.toNat / 16 ≤ 3 ∧ b.toNat % 16 = 0 ∧ r.length ≤ 64 then some (nibs r, decide (2 ≤ b.toNat / 16)) else none)

theorem nibs_nib (l : List UInt8) : (nibs l).all nib = true := by
  induction l with
  | nil => rfl
  | cons b r ih =>
    have := b.toNat_lt
    simp only [nibs, List.all_cons, ih, nib, Bool.and_true, Bool.and_eq_true, decide_eq_true_eq]
    omega
theorem bytes_nibs (l : List UInt8) : (pairUp (nibs l)).map (fun n => UInt8.ofNat n.toNat) = l := by
  induction l with
  | nil => rfl
  | cons b r ih =>
    simp only [nibs, pairUp, List.map_cons, ih]
    congr 1
    have : (16 * ((b.toNat : Int) / 16) + (b.toNat : Int) % 16).toNat = b.toNat := by omega
    rw [this]; simp
theorem code_odd (b : UInt8) (r : List UInt8) (leaf : Bool) (hx : r.length ≤ 63) : packR leaf (((b.toNat : Int) % 16) :: nibs r) = (⟨(UInt8.ofNat (16 * (mk leaf + 1) + (b.toNat : Int) % 16).toNat :: r).toArray⟩, 0) := by
  have hl := nibs_length r
  have hp : isP (((b.toNat : Int) % 16) :: nibs r) = true := by
    have := nibs_nib r
    simp only [isP, List.all_cons, this, nib, Bool.and_true, Bool.and_eq_true, decide_eq_true_eq, List.length_cons, hl]
    omega
  rw [packR_good hp]
  unfold codeOf
  rw [halvesOf_odd (by simp [hl])]
  simp only [pairUp, strOfNums, List.map_cons, bytes_nibs]
theorem code_even (r : List UInt8) (leaf : Bool) (hx : r.length ≤ 64) : packR leaf (nibs r) = (⟨(UInt8.ofNat (16 * mk leaf).toNat :: r).toArray⟩, 0) := by
  have hl := nibs_length r
  have hp : isP (nibs r) = true := by
    have := nibs_nib r
    simp only [isP, this, Bool.and_true, decide_eq_true_eq, hl]
    omega
  rw [packR_good hp]
  unfold codeOf
  rw [halvesOf_even (by omega)]
  simp only [pairUp, strOfNums, List.map_cons, bytes_nibs, Int.add_zero]
theorem pack_far (leaf : Bool) (zs : List Int) (h : 128 < zs.length) : packR leaf zs = (⟨#[]⟩, 7) := packR_bad (isP_long h)

theorem size_cons {s : ByteArray} {b : UInt8} {r : List UInt8} (h : s.data.toList = b :: r) : s.size = r.length + 1 := by
  rw [Lib.size_eq, h]; rfl
theorem get_cons {s : ByteArray} {b : UInt8} {r : List UInt8} (h : s.data.toList = b :: r) (h0 : 0 < s.size) : s[0] = b := by
  have : s.data.toList[0]'(by rw [h]; simp) = b := by simp [h]
  rw [← this]; rfl
theorem str_of_cons {s : ByteArray} {b : UInt8} {r : List UInt8} (h : s.data.toList = b :: r) : s = ⟨(b :: r).toArray⟩ := by
  cases s with
  | mk d => simp at h; rw [← h]
theorem str_cons_inj {b b' : UInt8} {r r' : List UInt8} (h : (⟨(b :: r).toArray⟩ : ByteArray) = ⟨(b' :: r').toArray⟩) : b = b' := by
  simp at h; exact h.1
theorem str_nil {s : ByteArray} (h : s.data.toList = []) : s = ⟨#[]⟩ := by
  cases s with
  | mk d => simp at h; rw [h]

theorem ofNat_eq {b : UInt8} {n : Nat} (hn : n < 256) (h : UInt8.ofNat n = b) : n = b.toNat := by
  rw [← h]; simp; omega

theorem rUnpack_some (s : ByteArray) (w : World) (hs : s.size ≤ 1900000) (p : List Int) (lf : Bool) (hu : unpL s.data.toList = some (p, lf)) :
    Calls Try.prog 20 #[.string s] w fun e w' => ∃ ao cap, e = .returned (.tuple #[.slice ao p.length cap, .bool lf, .int .i64 0]) ∧ Ints w' ao p ∧ (∀ a, ao = some a → w.heap.size ≤ a.block) ∧ Below w.heap.size w w' := by
  cases hl : s.data.toList with
  | nil => rw [hl] at hu; simp [unpL] at hu
  | cons b r =>
    rw [hl] at hu
    have hsz := size_cons hl
    have hsr := str_of_cons hl
    have hb := b.toNat_lt
    simp only [unpL] at hu
    by_cases ho : b.toNat / 16 % 2 = 1
    · rw [if_pos ho] at hu
      by_cases hc : b.toNat / 16 ≤ 3 ∧ r.length ≤ 63
      · rw [if_pos hc] at hu
        simp only [Option.some.injEq, Prod.mk.injEq] at hu
        obtain ⟨rfl, rfl⟩ := hu
        have hn : nibs s.data.toList = ((b.toNat : Int) / 16) :: (((b.toNat : Int) % 16) :: nibs r) := by rw [hl]; rfl
        by_cases h2 : 2 ≤ b.toNat / 16
        · have hd : decide (2 ≤ b.toNat / 16) = true := by simp [h2]
          rw [hd]
          refine rUnpack_olk s w r.length hsz (by omega) _ _ hn (by simp; omega) (by omega) (by omega) ?_
          rw [code_odd b r true hc.2, hsr]
          have : (16 * (mk true + 1) + (b.toNat : Int) % 16).toNat = b.toNat := by simp only [mk]; simp; omega
          rw [this]; simp
        · have hd : decide (2 ≤ b.toNat / 16) = false := by simp [h2]
          rw [hd]
          refine rUnpack_onk s w r.length hsz (by omega) _ _ hn (by simp; omega) (by omega) (by omega) (by omega) ?_
          rw [code_odd b r false hc.2, hsr]
          have : (16 * (mk false + 1) + (b.toNat : Int) % 16).toNat = b.toNat := by simp only [mk]; simp; omega
          rw [this]; simp
      · rw [if_neg hc] at hu; cases hu
    · rw [if_neg ho] at hu
      by_cases hc : b.toNat / 16 ≤ 3 ∧ b.toNat % 16 = 0 ∧ r.length ≤ 64
      · rw [if_pos hc] at hu
        simp only [Option.some.injEq, Prod.mk.injEq] at hu
        obtain ⟨rfl, rfl⟩ := hu
        have hn : nibs s.data.toList = ((b.toNat : Int) / 16) :: ((b.toNat : Int) % 16) :: nibs r := by rw [hl]; rfl
        by_cases h2 : 2 ≤ b.toNat / 16
        · have hd : decide (2 ≤ b.toNat / 16) = true := by simp [h2]
          rw [hd]
          refine rUnpack_elk s w r.length hsz (by omega) _ _ _ hn (by simp; omega) (by omega) (by omega) ?_
          rw [code_even r true hc.2.2, hsr]
          have : (16 * mk true).toNat = b.toNat := by simp only [mk]; simp; omega
          rw [this]; simp
        · have hd : decide (2 ≤ b.toNat / 16) = false := by simp [h2]
          rw [hd]
          refine rUnpack_enk s w r.length hsz (by omega) _ _ _ hn (by simp; omega) (by omega) (by omega) (by omega) ?_
          rw [code_even r false hc.2.2, hsr]
          have : (16 * mk false).toNat = b.toNat := by simp only [mk]; simp; omega
          rw [this]; simp
      · rw [if_neg hc] at hu; cases hu

theorem empty_ne {s : ByteArray} {n : Int} (h : n ≠ 0) : ¬ ((⟨#[]⟩ : ByteArray), n) = (s, 0) := by
  intro e; simp at e; exact h e.2

theorem rUnpack_none (s : ByteArray) (w : World) (hs : s.size ≤ 1900000) (hu : unpL s.data.toList = none) :
    Calls Try.prog 20 #[.string s] w fun e w' => e = .returned (.tuple #[.slice none 0 0, .bool false, .int .i64 7]) ∧ Below w.heap.size w w' := by
  cases hl : s.data.toList with
  | nil => rw [str_nil hl]; exact rUnpack_nil w
  | cons b r =>
    rw [hl] at hu
    have hsz := size_cons hl
    have hsr := str_of_cons hl
    have hb := b.toNat_lt
    have hln := nibs_length r
    simp only [unpL] at hu
    by_cases ho : b.toNat / 16 % 2 = 1
    · rw [if_pos ho] at hu
      have hc : ¬ (b.toNat / 16 ≤ 3 ∧ r.length ≤ 63) := fun hc => by rw [if_pos hc] at hu; cases hu
      have hn : nibs s.data.toList = ((b.toNat : Int) / 16) :: (((b.toNat : Int) % 16) :: nibs r) := by rw [hl]; rfl
      have hbad : ∀ leaf, leaf = decide (2 ≤ b.toNat / 16) → ¬ packR leaf (((b.toNat : Int) % 16) :: nibs r) = (s, 0) := by
        intro leaf hlf
        by_cases hx : r.length ≤ 63
        · rw [code_odd b r leaf hx]
          intro e
          simp only [Prod.mk.injEq, and_true] at e
          rw [hsr] at e
          have e2 := ofNat_eq (by cases leaf <;> simp [mk] <;> omega) (str_cons_inj e)
          have : leaf = true ∨ leaf = false := by cases leaf <;> simp
          rcases this with h | h <;> rw [h] at e2 hlf <;> simp [mk] at e2 hlf <;> omega
        · rw [pack_far leaf _ (by simp [hln]; omega)]
          exact empty_ne (by omega)
      by_cases h2 : 2 ≤ b.toNat / 16
      · exact rUnpack_olx s w r.length hsz (by omega) _ _ hn (by simp; omega) (by omega) (by omega) (hbad true (by simp [h2]))
      · exact rUnpack_onx s w r.length hsz (by omega) _ _ hn (by simp; omega) (by omega) (by omega) (by omega) (hbad false (by simp [h2]))
    · rw [if_neg ho] at hu
      have hc : ¬ (b.toNat / 16 ≤ 3 ∧ b.toNat % 16 = 0 ∧ r.length ≤ 64) := fun hc => by rw [if_pos hc] at hu; cases hu
      have hn : nibs s.data.toList = ((b.toNat : Int) / 16) :: ((b.toNat : Int) % 16) :: nibs r := by rw [hl]; rfl
      have hbad : ∀ leaf, leaf = decide (2 ≤ b.toNat / 16) → ¬ packR leaf (nibs r) = (s, 0) := by
        intro leaf hlf
        by_cases hx : r.length ≤ 64
        · rw [code_even r leaf hx]
          intro e
          simp only [Prod.mk.injEq, and_true] at e
          rw [hsr] at e
          have e2 := ofNat_eq (by cases leaf <;> simp [mk]) (str_cons_inj e)
          have : leaf = true ∨ leaf = false := by cases leaf <;> simp
          rcases this with h | h <;> rw [h] at e2 hlf <;> simp [mk] at e2 hlf <;> omega
        · rw [pack_far leaf _ (by simp [hln]; omega)]
          exact empty_ne (by omega)
      by_cases h2 : 2 ≤ b.toNat / 16
      · exact rUnpack_elx s w r.length hsz (by omega) _ _ _ hn (by simp; omega) (by omega) (by omega) (hbad true (by simp [h2]))
      · exact rUnpack_enx s w r.length hsz (by omega) _ _ _ hn (by simp; omega) (by omega) (by omega) (by omega) (hbad false (by simp [h2]))

theorem pUnpack_some (s : ByteArray) (w : World) (p : List Int) (lf : Bool) (hu : unpL s.data.toList = some (p, lf)) :
    Calls Try.prog 37 #[.string s] w fun e w' => ∃ g o, e = .returned (.tuple #[.slice (some ⟨g, o, none⟩) p.length p.length, .bool lf, .int .i64 0]) ∧ FullRow w' g o p ∧ w.heap.size ≤ g ∧ Below w.heap.size w w' := by
  cases hl : s.data.toList with
  | nil => rw [hl] at hu; simp [unpL] at hu
  | cons b r =>
    have hd1 := nibs_drop1 hl
    have hd2 := nibs_drop2 hl
    rw [hl] at hu
    have hsz := size_cons hl
    have h0 : 0 < s.size := by omega
    have hget := get_cons hl h0
    have hb := b.toNat_lt
    simp only [unpL] at hu
    by_cases ho : b.toNat / 16 % 2 = 1
    · rw [if_pos ho] at hu
      by_cases hc : b.toNat / 16 ≤ 3 ∧ r.length ≤ 63
      · rw [if_pos hc] at hu
        simp only [Option.some.injEq, Prod.mk.injEq] at hu
        obtain ⟨rfl, rfl⟩ := hu
        by_cases h2 : 2 ≤ b.toNat / 16
        · have hd : decide (2 ≤ b.toNat / 16) = true := by simp [h2]
          rw [hd]
          exact pUnpack_g3 s w h0 (by omega) ((b.toNat : Int) % 16) (by rw [hget]; omega) (by rw [hget]) _ hd1
        · have hd : decide (2 ≤ b.toNat / 16) = false := by simp [h2]
          rw [hd]
          exact pUnpack_g1 s w h0 (by omega) ((b.toNat : Int) % 16) (by rw [hget]; omega) (by rw [hget]) _ hd1
      · rw [if_neg hc] at hu; cases hu
    · rw [if_neg ho] at hu
      by_cases hc : b.toNat / 16 ≤ 3 ∧ b.toNat % 16 = 0 ∧ r.length ≤ 64
      · rw [if_pos hc] at hu
        simp only [Option.some.injEq, Prod.mk.injEq] at hu
        obtain ⟨rfl, rfl⟩ := hu
        by_cases h2 : 2 ≤ b.toNat / 16
        · have hd : decide (2 ≤ b.toNat / 16) = true := by simp [h2]
          rw [hd]
          exact pUnpack_g2 s w h0 (by omega) (by rw [hget]; omega) (by rw [hget]; omega) _ hd2
        · have hd : decide (2 ≤ b.toNat / 16) = false := by simp [h2]
          rw [hd]
          exact pUnpack_g0 s w h0 (by omega) (by rw [hget]; omega) (by rw [hget]; omega) _ hd2
      · rw [if_neg hc] at hu; cases hu

theorem pUnpack_none (s : ByteArray) (w : World) (hs : s.size ≤ 9223372036854775807) (hu : unpL s.data.toList = none) :
    Calls Try.prog 37 #[.string s] w fun e w' => e = .returned (.tuple #[.slice none 0 0, .bool false, .int .i64 7]) ∧ Below w.heap.size w w' := by
  have same : ∀ {w : World} (h : Calls Try.prog 37 #[.string s] w fun e w' => e = .returned (.tuple #[.slice none 0 0, .bool false, .int .i64 7]) ∧ w' = w), Calls Try.prog 37 #[.string s] w fun e w' => e = .returned (.tuple #[.slice none 0 0, .bool false, .int .i64 7]) ∧ Below w.heap.size w w' := by
    intro w h
    refine h.mono ?_
    rintro e w' ⟨rfl, rfl⟩
    exact ⟨rfl, Below.refl _ _⟩
  by_cases h65 : 65 < s.size
  · exact same (pUnpack_long s w h65 hs)
  cases hl : s.data.toList with
  | nil => have := str_nil hl; subst this; exact same (pUnpack_nil w)
  | cons b r =>
    rw [hl] at hu
    have hsz := size_cons hl
    have h0 : 0 < s.size := by omega
    have hget := get_cons hl h0
    have hb := b.toNat_lt
    simp only [unpL] at hu
    by_cases h3 : 3 < b.toNat / 16
    · exact pUnpack_e1 s w h0 (by omega) ((b.toNat : Int) / 16) ((b.toNat : Int) % 16) (by rw [hget]) (by rw [hget]) (by omega)
    by_cases ho : b.toNat / 16 % 2 = 1
    · rw [if_pos ho] at hu
      have hc : ¬ (b.toNat / 16 ≤ 3 ∧ r.length ≤ 63) := fun hc => by rw [if_pos hc] at hu; cases hu
      by_cases h2 : 2 ≤ b.toNat / 16
      · exact pUnpack_e3_3 s w h0 (by omega) ((b.toNat : Int) % 16) (by rw [hget]; omega) (by rw [hget]) (by omega)
      · exact pUnpack_e3_1 s w h0 (by omega) ((b.toNat : Int) % 16) (by rw [hget]; omega) (by rw [hget]) (by omega)
    · rw [if_neg ho] at hu
      have hc : ¬ (b.toNat / 16 ≤ 3 ∧ b.toNat % 16 = 0 ∧ r.length ≤ 64) := fun hc => by rw [if_pos hc] at hu; cases hu
      by_cases h2 : 2 ≤ b.toNat / 16
      · exact pUnpack_e2_2 s w h0 (by omega) ((b.toNat : Int) % 16) (by rw [hget]; omega) (by rw [hget]) (by omega)
      · exact pUnpack_e2_0 s w h0 (by omega) ((b.toNat : Int) % 16) (by rw [hget]; omega) (by rw [hget]) (by omega)

end Go.Proofs.Ytoafiieciiijbaa
