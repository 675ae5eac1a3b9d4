/-
  OUR OWN: ItemDp ItemG ItemL ItemM ItemN ItemO ItemP ItemQ.
-/
import Derived.Test.YtkegignigkhleaaDoorG17
import Derived.Test.YtkegignigkhleaaDoorG04
namespace Go.Proofs.YtkegignigkhleaaDoor
open Go.RowKit

/-- a part: list, count, data -/
abbrev Prt := Bool × Nat × ByteArray
def pcell (p : Prt) : List Value := [.bool p.1, .int .i64 (p.2.1 : Int), .string p.2.2]
def pcells (ps : List Prt) : List Value := ps.flatMap pcell
theorem pcells_length (ps : List Prt) : (pcells ps).length = ps.length * 3 := by
  induction ps with
  | nil => rfl
  | cons p r ih => simp [pcells, pcell] at ih ⊢; omega
theorem pcells_append (ps qs : List Prt) : pcells (ps ++ qs) = pcells ps ++ pcells qs := by simp [pcells]
theorem pcells_one (p : Prt) : pcells [p] = pcell p := by simp [pcells]

/-- item after item -/
def itemsA (R : Nat → Except Int (List Prt × Nat)) (e : Nat) : Nat → Nat → List Prt → Nat → Except Int (List Prt × Nat)
  | 0, _, acc, n => .ok (acc, n)
  | m + 1, a, acc, n => if a < e then (match R a with
      | .error x => .error x
      | .ok (ps, b) => itemsA R e m b (acc ++ ps) (n + 1)) else .ok (acc, n)

/-- bytes with a head ahead -/
def textN (s : ByteArray) (a limit : Nat) : Except Int (List Prt × Nat) :=
  if (spanN s a (byteN s a - 128) limit).2 ≠ 0 then .error (spanN s a (byteN s a - 128) limit).2
  else if ownC (s.extract (spanN s a (byteN s a - 128) limit).1.1 (spanN s a (byteN s a - 128) limit).1.2) then .error 4
  else .ok ([(false, 0, s.extract (spanN s a (byteN s a - 128) limit).1.1 (spanN s a (byteN s a - 128) limit).1.2)], (spanN s a (byteN s a - 128) limit).1.2)

/-- a list: by what reads its items -/
def listN (inner : Option (Nat → Nat → Except Int (List Prt × Nat))) (st en : Nat) : Except Int (List Prt × Nat) :=
  match inner with
  | none => .error 6
  | some f =>
    match itemsA (fun x => f x en) en (en - st) st [] 0 with
    | .error x => .error x
    | .ok (ps, n) => .ok ((true, n, ⟨#[]⟩) :: ps, en)
def readStep (s : ByteArray) (inner : Option (Nat → Nat → Except Int (List Prt × Nat))) (a limit : Nat) : Except Int (List Prt × Nat) :=
  if limit ≤ a then .error 3
  else if byteN s a < 128 then .ok ([(false, 0, s.extract a (a + 1))], a + 1)
  else if byteN s a < 192 then textN s a limit
  else if (spanN s a (byteN s a - 192) limit).2 ≠ 0 then .error (spanN s a (byteN s a - 192) limit).2
  else listN inner (spanN s a (byteN s a - 192) limit).1.1 (spanN s a (byteN s a - 192) limit).1.2
/-- the item at a place, inside of 8 - r lists: its parts, and where it ends; or the error -/
def readN (s : ByteArray) : Nat → Nat → Nat → Except Int (List Prt × Nat)
  | 0 => readStep s none
  | r + 1 => readStep s (some (readN s r))
def innerN (s : ByteArray) : Nat → Option (Nat → Nat → Except Int (List Prt × Nat))
  | 0 => none
  | r + 1 => some (readN s r)
theorem readN_eq (s : ByteArray) (r : Nat) : readN s r = readStep s (innerN s r) := by cases r <;> rfl
end Go.Proofs.YtkegignigkhleaaDoor
namespace Go.Proofs.YtkegignigkhleaaDoor
open Go.RowKit

theorem itemsA_go {R : Nat → Except Int (List Prt × Nat)} {e m a n b : Nat} {acc ps : List Prt} (h : a < e) (hr : R a = .ok (ps, b)) : itemsA R e (m + 1) a acc n = itemsA R e m b (acc ++ ps) (n + 1) := by
  simp [itemsA, h, hr]
theorem itemsA_bad {R : Nat → Except Int (List Prt × Nat)} {e m a n : Nat} {acc : List Prt} {x : Int} (h : a < e) (hr : R a = .error x) : itemsA R e (m + 1) a acc n = .error x := by
  simp [itemsA, h, hr]
theorem itemsA_end {R : Nat → Except Int (List Prt × Nat)} {e a n : Nat} {acc : List Prt} (h : ¬ a < e) : ∀ m, itemsA R e m a acc n = .ok (acc, n)
  | 0 => rfl
  | m + 1 => by simp [itemsA, h]
theorem itemsA_len {R : Nat → Except Int (List Prt × Nat)} {e : Nat} (hR : ∀ x ps b, x < e → R x = .ok (ps, b) → x + ps.length ≤ b ∧ b ≤ e) :
    ∀ (m a n : Nat) (acc qs : List Prt) (k : Nat), a ≤ e → itemsA R e m a acc n = .ok (qs, k) → qs.length + a ≤ acc.length + e
  | 0, a, n, acc, qs, k, ha, h => by
    simp [itemsA] at h
    rw [← h.1]; omega
  | m + 1, a, n, acc, qs, k, ha, h => by
    by_cases hl : a < e
    · cases hr : R a with
      | error x => rw [itemsA_bad hl hr] at h; cases h
      | ok y =>
        obtain ⟨ps, b⟩ := y
        have h1 := hR a ps b hl hr
        rw [itemsA_go hl hr] at h
        have h2 := itemsA_len hR m b (n + 1) (acc ++ ps) qs k h1.2 h
        rw [List.length_append] at h2
        omega
    · rw [itemsA_end hl] at h
      cases h
      omega
theorem itemsA_err {R : Nat → Except Int (List Prt × Nat)} {e : Nat} (hR : ∀ x y, R x = .error y → y ≠ 0) : ∀ (m a n : Nat) (acc : List Prt) (y : Int), itemsA R e m a acc n = .error y → y ≠ 0
  | 0, a, n, acc, y, h => by simp [itemsA] at h
  | m + 1, a, n, acc, y, h => by
    by_cases hl : a < e
    · cases hr : R a with
      | error x => rw [itemsA_bad hl hr] at h; cases h; exact hR a _ hr
      | ok z =>
        obtain ⟨ps, b⟩ := z
        rw [itemsA_go hl hr] at h
        exact itemsA_err hR m b (n + 1) (acc ++ ps) y h
    · rw [itemsA_end hl] at h; cases h

theorem span_ok (s : ByteArray) (a z limit : Nat) (h : (spanN s a z limit).2 = 0) : a + 1 ≤ (spanN s a z limit).1.1 ∧ (spanN s a z limit).1.1 ≤ (spanN s a z limit).1.2 ∧ (spanN s a z limit).1.2 ≤ limit := by
  unfold spanN at h ⊢
  split at h
  · rename_i hz
    rw [if_pos hz]
    split at h
    · cases h
    · rename_i hl
      rw [if_neg hl]
      refine ⟨Nat.le_refl _, ?_, ?_⟩
      · show a + 1 ≤ a + 1 + z; omega
      · show a + 1 + z ≤ limit; omega
  · rename_i hz
    rw [if_neg hz]
    rcases lenN_cases s (a + 1) (z - 55) limit with ⟨q1, q2⟩ | ⟨L, q1, q2, q3⟩
    · rw [if_pos (by rcases q2 with e | e <;> rw [e] <;> decide)] at h
      rcases q2 with e | e <;> rw [e] at h <;> cases h
    · rw [q3] at h ⊢
      rw [if_neg (by simp)] at h ⊢
      split at h
      · cases h
      · rename_i hl
        rw [if_neg hl]
        refine ⟨?_, ?_, ?_⟩
        · show a + 1 ≤ a + 1 + (z - 55); omega
        · show a + 1 + (z - 55) ≤ a + 1 + (z - 55) + L; omega
        · show a + 1 + (z - 55) + L ≤ limit
          simp at hl
          omega

theorem span_bad (s : ByteArray) (a z limit : Nat) (h : (spanN s a z limit).2 ≠ 0) : (spanN s a z limit).1 = (0, 0) := by
  unfold spanN at h ⊢
  split
  · rename_i hz
    rw [if_pos hz] at h
    split
    · rfl
    · rename_i hl; rw [if_neg hl] at h; exact absurd rfl h
  · rename_i hz
    rw [if_neg hz] at h
    split
    · rfl
    · rename_i h1
      rw [if_neg h1] at h
      split
      · rfl
      · rename_i hl; rw [if_neg hl] at h; exact absurd rfl h
theorem textN_len {s : ByteArray} {a limit en : Nat} {qs : List Prt} (h : textN s a limit = .ok (qs, en)) : a + qs.length ≤ en ∧ en ≤ limit := by
  unfold textN at h
  split at h
  · cases h
  · rename_i h1
    have h2 := span_ok s a _ limit (by simpa using h1)
    split at h
    · cases h
    · cases h; exact ⟨by simp; omega, h2.2.2⟩
theorem textN_err {s : ByteArray} {a limit : Nat} {y : Int} (h : textN s a limit = .error y) : y ≠ 0 := by
  unfold textN at h
  split at h
  · rename_i h1; have e := Except.error.inj h; rw [← e]; exact h1
  · split at h
    · cases h; decide
    · cases h
theorem listN_len {inner : Option (Nat → Nat → Except Int (List Prt × Nat))} {st en e : Nat} {qs : List Prt} (hin : ∀ f, inner = some f → ∀ a limit ps b, f a limit = .ok (ps, b) → a + ps.length ≤ b ∧ b ≤ limit) (hse : st ≤ en) (h : listN inner st en = .ok (qs, e)) : e = en ∧ qs.length + st ≤ en + 1 := by
  unfold listN at h
  split at h
  · cases h
  · rename_i f
    split at h
    · cases h
    · rename_i ps n hi
      cases h
      have h3 := itemsA_len (fun x ps b _ hx => hin f rfl x _ ps b hx) _ _ _ _ _ _ hse hi
      exact ⟨rfl, by simp at h3 ⊢; omega⟩
theorem listN_err {inner : Option (Nat → Nat → Except Int (List Prt × Nat))} {st en : Nat} {y : Int} (hin : ∀ f, inner = some f → ∀ a limit x, f a limit = .error x → x ≠ 0) (h : listN inner st en = .error y) : y ≠ 0 := by
  unfold listN at h
  split at h
  · cases h; decide
  · rename_i f
    split at h
    · rename_i x hi
      cases h
      exact itemsA_err (fun x y hx => hin f rfl x _ y hx) _ _ _ _ _ hi
    · cases h
theorem readStep_len {s : ByteArray} {inner : Option (Nat → Nat → Except Int (List Prt × Nat))} (hin : ∀ f, inner = some f → ∀ a limit ps b, f a limit = .ok (ps, b) → a + ps.length ≤ b ∧ b ≤ limit) {a limit en : Nat} {qs : List Prt} (h : readStep s inner a limit = .ok (qs, en)) : a + qs.length ≤ en ∧ en ≤ limit := by
  unfold readStep at h
  by_cases h1 : limit ≤ a
  · rw [if_pos h1] at h; cases h
  · rw [if_neg h1] at h
    by_cases h2 : byteN s a < 128
    · rw [if_pos h2] at h; cases h; exact ⟨Nat.le_refl _, by omega⟩
    · rw [if_neg h2] at h
      by_cases h3 : byteN s a < 192
      · rw [if_pos h3] at h; exact textN_len h
      · rw [if_neg h3] at h
        by_cases h4 : (spanN s a (byteN s a - 192) limit).2 = 0
        · rw [if_neg (by simpa using h4)] at h
          have h5 := span_ok s a _ limit h4
          have h6 := listN_len hin h5.2.1 h
          exact ⟨by omega, by omega⟩
        · rw [if_pos h4] at h; cases h
theorem readStep_err {s : ByteArray} {inner : Option (Nat → Nat → Except Int (List Prt × Nat))} (hin : ∀ f, inner = some f → ∀ a limit x, f a limit = .error x → x ≠ 0) {a limit : Nat} {y : Int} (h : readStep s inner a limit = .error y) : y ≠ 0 := by
  unfold readStep at h
  by_cases h1 : limit ≤ a
  · rw [if_pos h1] at h; cases h; decide
  · rw [if_neg h1] at h
    by_cases h2 : byteN s a < 128
    · rw [if_pos h2] at h; cases h
    · rw [if_neg h2] at h
      by_cases h3 : byteN s a < 192
      · rw [if_pos h3] at h; exact textN_err h
      · rw [if_neg h3] at h
        by_cases h4 : (spanN s a (byteN s a - 192) limit).2 = 0
        · rw [if_neg (by simpa using h4)] at h
          exact listN_err hin h
        · rw [if_pos h4] at h; have e := Except.error.inj h; rw [← e]; exact h4
theorem readN_len (s : ByteArray) : ∀ (r a limit : Nat) (qs : List Prt) (en : Nat), readN s r a limit = .ok (qs, en) → a + qs.length ≤ en ∧ en ≤ limit
  | 0, _, _, _, _, h => readStep_len (inner := none) (fun _ e => by cases e) h
  | r + 1, _, _, _, _, h => readStep_len (inner := some (readN s r)) (fun f e => by cases e; exact readN_len s r) h
theorem readN_err (s : ByteArray) : ∀ (r a limit : Nat) (y : Int), readN s r a limit = .error y → y ≠ 0
  | 0, _, _, _, h => readStep_err (inner := none) (fun _ e => by cases e) h
  | r + 1, _, _, _, h => readStep_err (inner := some (readN s r)) (fun f e => by cases e; exact readN_err s r) h
theorem listN_end {inner : Option (Nat → Nat → Except Int (List Prt × Nat))} {st en e : Nat} {qs : List Prt} (h : listN inner st en = .ok (qs, e)) : e = en := by
  unfold listN at h
  split at h
  · cases h
  · split at h
    · cases h
    · cases h; rfl
theorem readStep_pos {s : ByteArray} {inner : Option (Nat → Nat → Except Int (List Prt × Nat))} {a limit en : Nat} {qs : List Prt} (h : readStep s inner a limit = .ok (qs, en)) : a < en := by
  unfold readStep at h
  by_cases h1 : limit ≤ a
  · rw [if_pos h1] at h; cases h
  · rw [if_neg h1] at h
    by_cases h2 : byteN s a < 128
    · rw [if_pos h2] at h; cases h; omega
    · rw [if_neg h2] at h
      by_cases h3 : byteN s a < 192
      · rw [if_pos h3] at h
        unfold textN at h
        split at h
        · cases h
        · rename_i h1
          have h2 := span_ok s a _ limit (by simpa using h1)
          split at h
          · cases h
          · cases h; omega
      · rw [if_neg h3] at h
        by_cases h4 : (spanN s a (byteN s a - 192) limit).2 = 0
        · rw [if_neg (by simpa using h4)] at h
          have h5 := span_ok s a _ limit h4
          have h6 := listN_end h
          omega
        · rw [if_pos h4] at h; cases h
theorem readN_pos (s : ByteArray) (r a limit : Nat) (qs : List Prt) (en : Nat) (h : readN s r a limit = .ok (qs, en)) : a < en := by
  rw [readN_eq] at h
  exact readStep_pos h
end Go.Proofs.YtkegignigkhleaaDoor
namespace Go.Proofs.YtkegignigkhleaaDoor
open Go.RowKit
attribute [local go_sem ↓] Go.wp_at_zero Go.wp_at_succ

/-- the number, cut down -/
def capN (t : ByteArray) (q : Nat) : Nat := min (numN t 1 q) 1099511627776
theorem cap_le (t : ByteArray) (q : Nat) : capN t q ≤ 1099511627776 := Nat.min_le_right _ _
theorem cap_big (t : ByteArray) (q : Nat) (h : 1099511627776 < 256 * capN t q + byteN t (1 + q)) : capN t (q + 1) = 1099511627776 := by
  unfold capN at *
  rw [numN]
  omega
theorem cap_small (t : ByteArray) (q : Nat) (h : ¬ 1099511627776 < 256 * capN t q + byteN t (1 + q)) : capN t (q + 1) = 256 * capN t q + byteN t (1 + q) := by
  unfold capN at *
  rw [numN]
  omega

theorem len_ok {t : ByteArray} {k : Nat} (h1 : ¬ t.size < 1 + k) (h2 : byteN t 1 ≠ 0) (h3 : ¬ capN t k < 56) : lenN t 1 k t.size = (((min (numN t 1 k) 6001 : Nat) : Int), 0) := by
  have h4 : ¬ numN t 1 k ≤ 55 := by unfold capN at h3; omega
  rw [lenN, if_neg h1, if_neg h2, if_neg h4]
theorem len_bad {t : ByteArray} {k : Nat} (h1 : ¬ t.size < 1 + k) (h2 : byteN t 1 = 0 ∨ capN t k < 56) : lenN t 1 k t.size = (0, 4) := by
  rw [lenN, if_neg h1]
  by_cases h3 : byteN t 1 = 0
  · rw [if_pos h3]
  · rw [if_neg h3, if_pos]
    have := h2.resolve_left h3
    unfold capN at this
    omega

set_option maxHeartbeats 2000000 in
set_option maxRecDepth 20000 in
theorem span_short (t : ByteArray) (z : Nat) (w : World) (_ht : t.size ≤ 6000) (hz : z ≤ 55) :
    Calls Tryd.prog 54 #[.string t, .int .i64 (z : Int)] w fun e w' => e = .returned (.tuple #[.int .i64 ((spanN t 0 z t.size).1.1 : Int), .int .i64 ((spanN t 0 z t.size).1.2 : Int), .int .i64 (spanN t 0 z t.size).2]) ∧ w' = w := by
  have c1 : (z : Int) ≤ 55 := by omega
  by_cases h : t.size < 0 + 1 + z
  · have HE : Hid (spanN t 0 z t.size = ((0, 0), 3)) := by show _ = _; rw [spanN, if_pos hz, if_pos h]
    have c2 : (t.size : Int) < 1 + (z : Int) := by omega
    clear h
    go_enter Tryd.func54, Tryd.ntmps54
    go_wp2
    go_ret3
    exact ⟨by rw [HE.out]; rfl, rfl⟩
  · have HE : Hid (spanN t 0 z t.size = ((0 + 1, 0 + 1 + z), 0)) := by show _ = _; rw [spanN, if_pos hz, if_neg h]
    have c2 : 1 + (z : Int) ≤ (t.size : Int) := by omega
    have HV : Hid (((0 + 1 + z : Nat) : Int) = 1 + (z : Int)) := by show _ = _; omega
    clear h
    go_enter Tryd.func54, Tryd.ntmps54
    go_wp2
    go_ret3
    exact ⟨by rw [HE.out]; show _ = Ending.returned (.tuple #[.int .i64 1, .int .i64 ((0 + 1 + z : Nat) : Int), .int .i64 0]); rw [HV.out]; rfl, rfl⟩

set_option maxHeartbeats 2000000 in
set_option maxRecDepth 20000 in
theorem span_long (t : ByteArray) (z k : Nat) (w : World) (ht : t.size ≤ 6000) (hz : z = 55 + k) (hk0 : 1 ≤ k) (hk : k ≤ 8) :
    Calls Tryd.prog 54 #[.string t, .int .i64 (z : Int)] w fun e w' => e = .returned (.tuple #[.int .i64 ((spanN t 0 z t.size).1.1 : Int), .int .i64 ((spanN t 0 z t.size).1.2 : Int), .int .i64 (spanN t 0 z t.size).2]) ∧ w' = w := by
  have HS : Hid (spanN t 0 z t.size = if (lenN t 1 k t.size).2 ≠ 0 then ((0, 0), (lenN t 1 k t.size).2) else if (t.size : Int) < ((1 + k : Nat) : Int) + (lenN t 1 k t.size).1 then ((0, 0), 3) else ((1 + k, 1 + k + (lenN t 1 k t.size).1.toNat), 0)) := by
    show _ = _
    rw [spanN, if_neg (by omega), show z - 55 = k from by omega]
  rw [show (z : Int) = 55 + (k : Int) from by omega]
  have k0 : (0 : Int) < (k : Int) := by omega
  have k8 : (k : Int) ≤ 8 := by omega
  by_cases h1 : t.size < 1 + k
  · have HE : Hid (spanN t 0 z t.size = ((0, 0), 3)) := by
      show _ = _; rw [HS.out]; simp [lenN, h1]
    have c2 : (t.size : Int) < 1 + (k : Int) := by omega
    clear h1 HS
    go_enter Tryd.func54, Tryd.ntmps54
    go_wp2
    go_ret3
    exact ⟨by rw [HE.out]; rfl, rfl⟩
  · have c2 : 1 + (k : Int) ≤ (t.size : Int) := by omega
    have h11 : 1 < t.size := by omega
    have HB1 := hide (byteN_eq t 1 h11)
    have HH1 := hide h1
    have HT := hide ht
    have c4 : (t.size : Int) ≤ 6000 := by omega
    have c3 : (1 : Int) < (t.size : Int) := by omega
    have e8 : (55 + (k : Int) - 55) = (k : Int) := by omega
    clear h1
    have d1 : decide (55 < 55 + (k : Int)) = true := by simp; omega
    have d2 : decide ((t.size : Int) < 1 + (k : Int)) = false := by simp; omega
    go_enter Tryd.func54, Tryd.ntmps54
    go_wp2
    clear d1 d2
    go_loopw [1, 9] (fun v i wr => ∃ q : Nat, q ≤ k ∧ i = .int .i64 ((q + 1 : Nat) : Int) ∧ v = .int .i64 ((capN t q : Nat) : Int) ∧ wr = w) (fun _ i _ => k + 1 - (intOf i).toNat)
    case atStart => exact ⟨0, Nat.zero_le _, rfl, rfl, rfl⟩
    case round =>
      obtain ⟨q, hq, rfl, rfl, rfl⟩ := hrel
      by_cases hlt : q < k
      · have h5 : q + 1 < t.size := by omega
        have HB2 := hide (byteN_eq t (q + 1) h5)
        have hb3 := byteN_lt t (q + 1)
        have b1 : (((q + 1 : Nat) : Int)) ≤ (k : Int) := by omega
        have b2 : (0 : Int) ≤ ((q + 1 : Nat) : Int) := by omega
        have b3 : ((q + 1 : Nat) : Int) < (t.size : Int) := by omega
        have HC := hide (And.intro (cap_big t q) (cap_small t q))
        have hc0 := cap_le t q
        have ec : 1 + q = q + 1 := by omega
        rw [ec] at HC
        have hcI : ((capN t q : Nat) : Int) ≤ 1099511627776 := by omega
        have hcJ : (0 : Int) ≤ ((capN t q : Nat) : Int) := by omega
        have hbI : (t[q + 1].toNat : Int) < 256 := by rw [HB2.out]; omega
        have hbJ : (0 : Int) ≤ (t[q + 1].toNat : Int) := by omega
        have k1 : IntKind.i64.wrap (t[q + 1].toNat : Int) = (t[q + 1].toNat : Int) := by rw [IntKind.wrap_i64]; omega
        go_wp2
        all_goals go_roundw
        case rel => exact ⟨q + 1, by omega, by go_num, by rename_i h; rw [HC.out.1 (by have := HB2.out; omega)]; rfl, trivial⟩
        case measure => simp [intOf]; omega
        case rel => exact ⟨q + 1, by omega, by go_num, by rename_i h; rw [HC.out.2 (by have := HB2.out; omega), ← HB2.out]; rfl, trivial⟩
        case measure => simp [intOf]; omega
      · have hqk : q = k := by omega
        subst hqk
        have hc0 := cap_le t q
        have hcI : ((capN t q : Nat) : Int) ≤ 1099511627776 := by omega
        have hcJ : (0 : Int) ≤ ((capN t q : Nat) : Int) := by omega
        have b1 : decide (((q + 1 : Nat) : Int) ≤ (q : Int)) = false := by simp; omega
        by_cases h3 : byteN t 1 = 0
        · have HE : Hid (spanN t 0 z t.size = ((0, 0), 4)) := by show _ = _; rw [HS.out, len_bad HH1.out (.inl h3)]; rfl
          have c5 : (t[1].toNat : Int) = 0 := by rw [HB1.out, h3]; rfl
          clear HS
          go_wp2
          go_ret3
          exact ⟨by rw [HE.out]; rfl, rfl⟩
        · have c5 : ((t[1].toNat : Int) == 0) = false := by rw [HB1.out]; simp; omega
          by_cases h4 : capN t q < 56
          · have HE : Hid (spanN t 0 z t.size = ((0, 0), 4)) := by show _ = _; rw [HS.out, len_bad HH1.out (.inr h4)]; rfl
            have c6 : ((capN t q : Nat) : Int) < 56 := by omega
            clear HS
            go_wp2
            go_ret3
            exact ⟨by rw [HE.out]; rfl, rfl⟩
          · have c6 : (56 : Int) ≤ ((capN t q : Nat) : Int) := by omega
            have HL := len_ok HH1.out h3 h4
            rw [HL, if_neg (by simp)] at HS
            by_cases h5 : t.size < 1 + q + capN t q
            · have HE : Hid (spanN t 0 z t.size = ((0, 0), 3)) := by
                show _ = _; rw [HS.out, if_pos (by have := HT.out; unfold capN at h5; show (t.size : Int) < _ + ((min (numN t 1 q) 6001 : Nat) : Int); omega)]
              have c7 : (t.size : Int) < 1 + (q : Int) + ((capN t q : Nat) : Int) := by omega
              clear HS HL h5
              go_wp2
              go_ret3
              exact ⟨by rw [HE.out]; rfl, rfl⟩
            · have HE : Hid (spanN t 0 z t.size = ((1 + q, 1 + q + capN t q), 0)) := by
                show _ = _; rw [HS.out, if_neg (by have := HT.out; unfold capN at h5; show ¬ (t.size : Int) < _ + ((min (numN t 1 q) 6001 : Nat) : Int); omega)]
                have : (min (numN t 1 q) 6001 : Nat) = capN t q := by have := HT.out; unfold capN at h5 ⊢; omega
                show ((1 + q, 1 + q + ((min (numN t 1 q) 6001 : Nat) : Int).toNat), (0 : Int)) = _
                rw [Int.toNat_natCast, this]
              have c7 : 1 + (q : Int) + ((capN t q : Nat) : Int) ≤ (t.size : Int) := by omega
              have HV : Hid (((1 + q : Nat) : Int) = 1 + (q : Int) ∧ ((1 + q + capN t q : Nat) : Int) = 1 + (q : Int) + (capN t q : Int)) := ⟨by omega, by omega⟩
              clear HS HL h5
              go_wp2
              go_ret3
              exact ⟨by rw [HE.out]; show _ = Ending.returned (.tuple #[.int .i64 ((1 + q : Nat) : Int), .int .i64 ((1 + q + capN t q : Nat) : Int), .int .i64 0]); rw [HV.out.1, HV.out.2]; rfl, rfl⟩
theorem span_any (t : ByteArray) (z : Nat) (w : World) (ht : t.size ≤ 6000) (hz : z ≤ 63) :
    Calls Tryd.prog 54 #[.string t, .int .i64 (z : Int)] w fun e w' => e = .returned (.tuple #[.int .i64 ((spanN t 0 z t.size).1.1 : Int), .int .i64 ((spanN t 0 z t.size).1.2 : Int), .int .i64 (spanN t 0 z t.size).2]) ∧ w' = w := by
  by_cases h : z ≤ 55
  · exact span_short t z w ht h
  · exact span_long t z (z - 55) w ht (by omega) (by omega) (by omega)
end Go.Proofs.YtkegignigkhleaaDoor
namespace Go.Proofs.YtkegignigkhleaaDoor
open Go.RowKit

theorem ext_get (s : ByteArray) (a limit i : Nat) (h : a + i < limit) (hl : limit ≤ s.size) : byteN (s.extract a limit) i = byteN s (a + i) := by
  have h1 : i < (s.extract a limit).size := by rw [ext_size s a limit (by omega) hl]; omega
  rw [← byteN_eq _ i h1, ← byteN_eq s (a + i) (by omega)]
  simp [ByteArray.getElem_extract]
theorem num_ext (s : ByteArray) (a limit b : Nat) (hl : limit ≤ s.size) : ∀ k, a + b + k ≤ limit → numN (s.extract a limit) b k = numN s (a + b) k
  | 0, _ => rfl
  | k + 1, h => by
    rw [numN, numN, num_ext s a limit b hl k (by omega), ext_get s a limit (b + k) (by omega) hl, Nat.add_assoc]
theorem len_ext (s : ByteArray) (a limit b k : Nat) (hl : limit ≤ s.size) (hab : a + b ≤ limit) (hk : 1 ≤ k) : lenN (s.extract a limit) b k (limit - a) = lenN s (a + b) k limit := by
  unfold lenN
  by_cases h : limit < a + b + k
  · rw [if_pos h, if_pos (by omega)]
  · rw [if_neg h, if_neg (by omega), num_ext s a limit b hl k (by omega), ext_get s a limit b (by omega) hl]
/-- a piece by itself: the same, by so much earlier -/
theorem span_ext (s : ByteArray) (a z limit : Nat) (ha : a < limit) (hl : limit ≤ s.size) :
    (spanN (s.extract a limit) 0 z (s.extract a limit).size).2 = (spanN s a z limit).2 ∧
    ((spanN s a z limit).2 = 0 → a + (spanN (s.extract a limit) 0 z (s.extract a limit).size).1.1 = (spanN s a z limit).1.1 ∧ a + (spanN (s.extract a limit) 0 z (s.extract a limit).size).1.2 = (spanN s a z limit).1.2) := by
  rw [ext_size s a limit (by omega) hl]
  unfold spanN
  by_cases h1 : z ≤ 55
  · rw [if_pos h1, if_pos h1]
    by_cases h2 : limit < a + 1 + z
    · rw [if_pos h2, if_pos (by omega)]
      exact ⟨rfl, fun h => by cases h⟩
    · rw [if_neg h2, if_neg (by omega)]
      exact ⟨rfl, fun _ => ⟨by show a + (0 + 1) = a + 1; omega, by show a + (0 + 1 + z) = a + 1 + z; omega⟩⟩
  · rw [if_neg h1, if_neg h1, show 0 + 1 = 1 from rfl, len_ext s a limit 1 (z - 55) hl (by omega) (by omega)]
    by_cases h2 : (lenN s (a + 1) (z - 55) limit).2 = 0
    · have hc : ¬ (lenN s (a + 1) (z - 55) limit).2 ≠ 0 := by simpa using h2
      rw [if_neg hc, if_neg hc]
      rcases lenN_cases s (a + 1) (z - 55) limit with ⟨q1, q2⟩ | ⟨L, q1, q2, q3⟩
      · rcases q2 with e | e <;> rw [e] at h2 <;> cases h2
      · rw [q3]
        simp only [Int.toNat_natCast]
        by_cases h3 : (limit : Int) < ((a + 1 + (z - 55) : Nat) : Int) + (L : Int)
        · have h4 : ((limit - a : Nat) : Int) < ((1 + (z - 55) : Nat) : Int) + (L : Int) := by omega
          rw [if_pos h3, if_pos h4]
          exact ⟨rfl, fun h => by cases h⟩
        · have h4 : ¬ ((limit - a : Nat) : Int) < ((1 + (z - 55) : Nat) : Int) + (L : Int) := by omega
          rw [if_neg h3, if_neg h4]
          exact ⟨rfl, fun _ => ⟨by show a + (1 + (z - 55)) = a + 1 + (z - 55); omega, by show a + (1 + (z - 55) + L) = a + 1 + (z - 55) + L; omega⟩⟩
    · rw [if_pos h2, if_pos h2]
      exact ⟨rfl, fun h => absurd h h2⟩
theorem ext_ext (s : ByteArray) (a limit x y : Nat) (h : a + y ≤ limit) : (s.extract a limit).extract x y = s.extract (a + x) (a + y) := by
  apply ByteArray.ext
  rw [ByteArray.data_extract, ByteArray.data_extract, ByteArray.data_extract, Array.extract_extract, Nat.min_eq_left h]
end Go.Proofs.YtkegignigkhleaaDoor
namespace Go.Proofs.YtkegignigkhleaaDoor
open Go.RowKit
attribute [local go_sem ↓] Go.wp_at_zero Go.wp_at_succ

/-- three cells hold an item whose parts are these; its rows lie in blocks that are ok -/
def ItIs : Nat → World → (Nat → Prop) → List Value → List Prt → Prop
  | 0, _, _, cs, ps => ∃ b : ByteArray, cs = [.bool false, .string b, .slice none 0 0] ∧ ps = [(false, 0, b)]
  | r + 1, w, ok, cs, ps => (∃ b : ByteArray, cs = [.bool false, .string b, .slice none 0 0] ∧ ps = [(false, 0, b)]) ∨
    ∃ (v : Value) (css : List (List Value)) (pss : List (List Prt)), cs = [.bool true, .string ⟨#[]⟩, v] ∧ w.ownsRow 0 75 3 v css.length css.flatten ∧ (∀ g, v.ownBlock = some g → ok g) ∧
      css.length = pss.length ∧ (∀ i, i < css.length → ItIs r w ok (css.getD i []) (pss.getD i [])) ∧ ps = (true, css.length, ⟨#[]⟩) :: pss.flatten
theorem ItIs.text (r : Nat) (w : World) (ok : Nat → Prop) (b : ByteArray) : ItIs r w ok [.bool false, .string b, .slice none 0 0] [(false, 0, b)] := by
  cases r with
  | zero => exact ⟨b, rfl, rfl⟩
  | succ r => exact .inl ⟨b, rfl, rfl⟩
theorem ItIs.keep {w w' : World} {ok ok' : Nat → Prop} (hk : ∀ k, ok k → k < w.heap.size → w'.heap[k]? = w.heap[k]? ∧ ok' k) : ∀ {r : Nat} {cs : List Value} {ps : List Prt}, ItIs r w ok cs ps → ItIs r w' ok' cs ps
  | 0, _, _, h => h
  | r + 1, cs, ps, h => by
    rcases h with h | ⟨v, css, pss, h1, h2, h3, h4, h5, h6⟩
    · exact .inl h
    · have hlt : ∀ g, v.ownBlock = some g → g < w.heap.size := by
        intro g e
        rcases h2.2 with ⟨rfl, _⟩ | ⟨g', c, cur, rfl, _, hg, _⟩
        · cases e
        · obtain rfl : g' = g := by simpa [Value.ownBlock] using e
          rcases Nat.lt_or_ge g' w.heap.size with h1 | h1
          · exact h1
          · rw [Array.getElem?_eq_none h1] at hg; cases hg
      exact .inr ⟨v, css, pss, h1, own_far h2 (fun g e hg => (hk g (h3 g e) hg).1), fun g e => (hk g (h3 g e) (hlt g e)).2, h4, fun i hi => ItIs.keep hk (h5 i hi), h6⟩
theorem ItIs.len {w : World} {ok : Nat → Prop} {r : Nat} {cs : List Value} {ps : List Prt} (h : ItIs r w ok cs ps) : cs.length = 3 := by
  cases r with
  | zero => obtain ⟨b, rfl, _⟩ := h; rfl
  | succ r =>
    rcases h with ⟨b, rfl, _⟩ | ⟨v, css, pss, rfl, _⟩ <;> rfl

def it0 : Value := .agg #[.bool false, .string ⟨#[]⟩, .slice none 0 0]
/-- what a call of cut answers -/
def CutPost (r : Nat) (res : Except Int (List Prt × Nat)) (a : Nat) (w : World) (e : Ending) (w' : World) : Prop :=
  match res with
  | .error x => e = .returned (.tuple #[it0, .int .i64 0, .int .i64 x]) ∧ Below w.heap.size w w'
  | .ok (ps, en) => ∃ c0 c1 c2, e = .returned (.tuple #[.agg #[c0, c1, c2], .int .i64 ((en - a : Nat) : Int), .int .i64 0]) ∧ ItIs r w' (fun k => w.heap.size ≤ k) [c0, c1, c2] ps ∧ Below w.heap.size w w'

set_option maxHeartbeats 1000000 in
set_option maxRecDepth 20000 in
theorem cut_empty (d : Nat) (w : World) :
    Calls Tryd.prog 42 #[.string ⟨#[]⟩, .int .i64 (d : Int)] w fun e w' => e = .returned (.tuple #[it0, .int .i64 0, .int .i64 3]) ∧ Below w.heap.size w w' := by
  go_enter Tryd.func42, Tryd.ntmps42
  go_wp2
  refine bodyPost_ret (v := .tuple #[it0, .int .i64 0, .int .i64 3]) (by simp [results, Tryd.results42, go_sem, it0]) rfl ⟨rfl, ?_⟩
  exact below_alloc _ _

set_option maxHeartbeats 1000000 in
set_option maxRecDepth 20000 in
theorem cut_own (t : ByteArray) (d : Nat) (w : World) (h0 : 0 < t.size) (hb : byteN t 0 < 128) :
    Calls Tryd.prog 42 #[.string t, .int .i64 (d : Int)] w fun e w' => e = .returned (.tuple #[.agg #[.bool false, .string (t.extract 0 1), .slice none 0 0], .int .i64 1, .int .i64 0]) ∧ Below w.heap.size w w' := by
  have HB := hide (byteN_eq t 0 h0)
  have h3 : (t[0].toNat : Int) < 128 := by rw [HB.out]; omega
  have b2 : (0 : Int) < (t.size : Int) := by omega
  have b3 : ((t.size : Int) == 0) = false := beq_false_of_ne (by omega)
  clear hb
  go_enter Tryd.func42, Tryd.ntmps42
  go_wp2
  refine bodyPost_ret (v := .tuple #[.agg #[.bool false, .string (t.extract 0 1), .slice none 0 0], .int .i64 1, .int .i64 0]) (by simp [results, Tryd.results42, go_sem]) rfl ⟨rfl, ?_⟩
  exact below_alloc _ _

set_option maxHeartbeats 2000000 in
set_option maxRecDepth 20000 in
/-- bytes with a head ahead: the head is none -/
theorem cut_textE (t : ByteArray) (d z : Nat) (w : World) (h0 : 0 < t.size) (ht : t.size ≤ 6000) (hb : byteN t 0 = 128 + z) (hz : z ≤ 63) (er : Int) (her : er ≠ 0) (hsp : spanN t 0 z t.size = ((0, 0), er)) :
    Calls Tryd.prog 42 #[.string t, .int .i64 (d : Int)] w fun e w' => e = .returned (.tuple #[it0, .int .i64 0, .int .i64 er]) ∧ Below w.heap.size w w' := by
  have HB := hide (byteN_eq t 0 h0)
  have h3 : (t[0].toNat : Int) = 128 + (z : Int) := by rw [HB.out]; omega
  have HS : Hid (∀ W, Calls Tryd.prog 54 #[.string t, .int .i64 (128 + (z : Int) - 128)] W fun e w' => e = .returned (.tuple #[.int .i64 0, .int .i64 0, .int .i64 er]) ∧ w' = W) := by
    intro W
    have h := span_any t z W ht hz
    rw [hsp] at h
    rwa [show (z : Int) = 128 + (z : Int) - 128 from by omega] at h
  have b2 : (0 : Int) < (t.size : Int) := by omega
  have b3 : ((t.size : Int) == 0) = false := beq_false_of_ne (by omega)
  have b4 : (z : Int) ≤ 63 := by omega
  have b5 : (0 : Int) ≤ (z : Int) := by omega
  have e1 : (er == 0) = false := beq_false_of_ne her
  have e2 : (er != 0) = true := by simpa using her
  clear hb hsp hz her
  go_enter Tryd.func42, Tryd.ntmps42
  go_wp2_with fail
  refine (HS.out _).mono ?_
  rintro e w1 ⟨rfl, rfl⟩
  go_wp2
  refine bodyPost_ret (v := .tuple #[it0, .int .i64 0, .int .i64 er]) (by simp [results, Tryd.results42, go_sem, it0]) rfl ⟨rfl, ?_⟩
  exact below_alloc _ _
end Go.Proofs.YtkegignigkhleaaDoor
namespace Go.Proofs.YtkegignigkhleaaDoor
open Go.RowKit
attribute [local go_sem ↓] Go.wp_at_zero Go.wp_at_succ

set_option maxHeartbeats 2000000 in
set_option maxRecDepth 20000 in
/-- one byte that is its own code, with a head -/
theorem cut_textF (t : ByteArray) (d : Nat) (w : World) (h0 : 0 < t.size) (ht : t.size ≤ 6000) (hb : byteN t 0 = 128 + 1) (h2 : 2 ≤ t.size) (hf : byteN t 1 < 128) (hsp : spanN t 0 1 t.size = ((1, 2), 0)) :
    Calls Tryd.prog 42 #[.string t, .int .i64 (d : Int)] w fun e w' => e = .returned (.tuple #[it0, .int .i64 0, .int .i64 4]) ∧ Below w.heap.size w w' := by
  have HB := hide (byteN_eq t 0 h0)
  have h3 : (t[0].toNat : Int) = 129 := by rw [HB.out]; omega
  have HS : Hid (∀ W, Calls Tryd.prog 54 #[.string t, .int .i64 (129 - 128)] W fun e w' => e = .returned (.tuple #[.int .i64 (1 : Nat), .int .i64 (2 : Nat), .int .i64 0]) ∧ w' = W) := by
    intro W
    have h := span_any t 1 W ht (by omega)
    rw [hsp] at h
    rwa [show ((1 : Nat) : Int) = 129 - 128 from by omega] at h
  have b2 : (0 : Int) < (t.size : Int) := by omega
  have b3 : ((t.size : Int) == 0) = false := beq_false_of_ne (by omega)
  have h11 : 1 < t.size := by omega
  have HB1 := hide (byteN_eq t 1 h11)
  have b6 : (1 : Int) < (t.size : Int) := by omega
  have b7 : (t[1].toNat : Int) < 128 := by rw [HB1.out]; omega
  clear hb hsp
  go_enter Tryd.func42, Tryd.ntmps42
  go_wp2_with fail
  refine (HS.out _).mono ?_
  rintro e w1 ⟨rfl, rfl⟩
  go_wp2
  refine bodyPost_ret (v := .tuple #[it0, .int .i64 0, .int .i64 4]) (by simp [results, Tryd.results42, go_sem, it0]) rfl ⟨rfl, ?_⟩
  exact below_alloc _ _

set_option maxHeartbeats 2000000 in
set_option maxRecDepth 20000 in
/-- one byte that is not its own code, with a head -/
theorem cut_textG (t : ByteArray) (d x y : Nat) (w : World) (h0 : 0 < t.size) (ht : t.size ≤ 6000) (hb : byteN t 0 = 128 + 1) (h2 : 2 ≤ t.size) (hf : 128 ≤ byteN t 1) (hxy : x ≤ y) (hyt : y ≤ t.size) (hsp : spanN t 0 1 t.size = ((x, y), 0)) :
    Calls Tryd.prog 42 #[.string t, .int .i64 (d : Int)] w fun e w' => e = .returned (.tuple #[.agg #[.bool false, .string (t.extract x y), .slice none 0 0], .int .i64 (y : Int), .int .i64 0]) ∧ Below w.heap.size w w' := by
  have HB := hide (byteN_eq t 0 h0)
  have h3 : (t[0].toNat : Int) = 129 := by rw [HB.out]; omega
  have HS : Hid (∀ W, Calls Tryd.prog 54 #[.string t, .int .i64 (129 - 128)] W fun e w' => e = .returned (.tuple #[.int .i64 (x : Nat), .int .i64 (y : Nat), .int .i64 0]) ∧ w' = W) := by
    intro W
    have h := span_any t 1 W ht (by omega)
    rw [hsp] at h
    rwa [show ((1 : Nat) : Int) = 129 - 128 from by omega] at h
  have b2 : (0 : Int) < (t.size : Int) := by omega
  have b3 : ((t.size : Int) == 0) = false := beq_false_of_ne (by omega)
  have h11 : 1 < t.size := by omega
  have HB1 := hide (byteN_eq t 1 h11)
  have b6 : (1 : Int) < (t.size : Int) := by omega
  have c1 : (0 : Int) ≤ (x : Int) := by omega
  have c2 : (x : Int) ≤ (y : Int) := by omega
  have c3 : (y : Int) ≤ (t.size : Int) := by omega
  have b7 : decide ((t[1].toNat : Int) < 128) = false := by rw [HB1.out]; simp; omega
  clear hb hsp
  go_enter Tryd.func42, Tryd.ntmps42
  go_wp2_with fail
  refine (HS.out _).mono ?_
  rintro e w1 ⟨rfl, rfl⟩
  go_wp2
  refine bodyPost_ret (v := .tuple #[.agg #[.bool false, .string (t.extract x y), .slice none 0 0], .int .i64 (y : Int), .int .i64 0]) (by simp [results, Tryd.results42, go_sem]) rfl ⟨rfl, ?_⟩
  exact below_alloc _ _

set_option maxHeartbeats 2000000 in
set_option maxRecDepth 20000 in
/-- bytes with a head, but one -/
theorem cut_textK (t : ByteArray) (d z x y : Nat) (w : World) (h0 : 0 < t.size) (ht : t.size ≤ 6000) (hb : byteN t 0 = 128 + z) (hz : z ≤ 63) (hz1 : z ≠ 1) (hxy : x ≤ y) (hyt : y ≤ t.size) (hsp : spanN t 0 z t.size = ((x, y), 0)) :
    Calls Tryd.prog 42 #[.string t, .int .i64 (d : Int)] w fun e w' => e = .returned (.tuple #[.agg #[.bool false, .string (t.extract x y), .slice none 0 0], .int .i64 (y : Int), .int .i64 0]) ∧ Below w.heap.size w w' := by
  have HB := hide (byteN_eq t 0 h0)
  have h3 : (t[0].toNat : Int) = 128 + (z : Int) := by rw [HB.out]; omega
  have HS : Hid (∀ W, Calls Tryd.prog 54 #[.string t, .int .i64 (128 + (z : Int) - 128)] W fun e w' => e = .returned (.tuple #[.int .i64 (x : Nat), .int .i64 (y : Nat), .int .i64 0]) ∧ w' = W) := by
    intro W
    have h := span_any t z W ht (by omega)
    rw [hsp] at h
    rwa [show ((z : Nat) : Int) = 128 + (z : Int) - 128 from by omega] at h
  have b2 : (0 : Int) < (t.size : Int) := by omega
  have b3 : ((t.size : Int) == 0) = false := beq_false_of_ne (by omega)
  have c1 : (0 : Int) ≤ (x : Int) := by omega
  have c2 : (x : Int) ≤ (y : Int) := by omega
  have c3 : (y : Int) ≤ (t.size : Int) := by omega
  have b4 : (z : Int) ≤ 63 := by omega
  have b5 : (0 : Int) ≤ (z : Int) := by omega
  have b7 : (128 + (z : Int) == 129) = false := beq_false_of_ne (by omega)
  clear hb hsp
  go_enter Tryd.func42, Tryd.ntmps42
  go_wp2_with fail
  refine (HS.out _).mono ?_
  rintro e w1 ⟨rfl, rfl⟩
  go_wp2
  refine bodyPost_ret (v := .tuple #[.agg #[.bool false, .string (t.extract x y), .slice none 0 0], .int .i64 (y : Int), .int .i64 0]) (by simp [results, Tryd.results42, go_sem]) rfl ⟨rfl, ?_⟩
  exact below_alloc _ _
end Go.Proofs.YtkegignigkhleaaDoor
namespace Go.Proofs.YtkegignigkhleaaDoor
open Go.RowKit

theorem infoIt : (Tryd.prog.info? 75).map (fun i => (i.zero, i.size, i.bytes)) = some (some it0, 3, 48) := by kernel_rfl

/-- the list so far: its block, its row, its items -/
structure Ls (r : Nat) (w wr : World) (X : Nat) (lk : Value) (css : List (List Value)) (pss : List (List Prt)) : Prop where
  blk : wr.heap[X]? = some (.cells #[.bool true, .string ⟨#[]⟩, lk] 75 (0, 0))
  own : wr.ownsRow (X + 1) 75 3 lk css.length css.flatten
  len : css.length = pss.length
  its : ∀ i, i < css.length → ItIs r wr (fun k => X < k ∧ lk.ownBlock ≠ some k) (css.getD i []) (pss.getD i [])
  bel : Below w.heap.size w wr
  hX : w.heap.size ≤ X

theorem Ls.lt {r : Nat} {w wr : World} {X : Nat} {lk : Value} {css : List (List Value)} {pss : List (List Prt)} (h : Ls r w wr X lk css pss) : X < wr.heap.size := by
  rcases Nat.lt_or_ge X wr.heap.size with h1 | h1
  · exact h1
  · have := h.blk; rw [Array.getElem?_eq_none h1] at this; cases this
theorem Ls.row_ne {r : Nat} {w wr : World} {X : Nat} {lk : Value} {css : List (List Value)} {pss : List (List Prt)} (h : Ls r w wr X lk css pss) : lk.ownBlock ≠ some X := by
  intro e
  have := own_ge h.own (Nat.le_refl _) X e
  omega

theorem Ls.push {r : Nat} {w wr w6 w8 : World} {X : Nat} {lk : Value} {css : List (List Value)} {pss : List (List Prt)} {c0 c1 c2 : Value} {ps : List Prt} {o1 o2 : Obj} {g c : Nat} (h : Ls r w wr X lk css pss) (hb : Below wr.heap.size wr w6)
    (hit : ItIs r w6 (fun k => wr.heap.size ≤ k) [c0, c1, c2] ps)
    (ho : w8.ownsRow (X + 1) 75 3 (.slice (some ⟨g, 0, none⟩) (css.length + 1) c) (css.length + 1) (css.flatten ++ [c0, c1, c2])) (hg : ((w6.alloc o1).alloc o2).grownBy w8 lk.ownBlock) (hat : lk.ownBlock = some g ∨ g = ((w6.alloc o1).alloc o2).heap.size) :
    w8.cell? ⟨X, 2, none⟩ = some lk ∧ w8.frozen? ⟨X, 2, none⟩ = false ∧ (∀ k, k < wr.heap.size → lk.ownBlock ≠ some k → w8.heap[k]? = wr.heap[k]?) ∧ Ls r w (w8.setCell ⟨X, 2, none⟩ (.slice (some ⟨g, 0, none⟩) (css.length + 1) c)) X (.slice (some ⟨g, 0, none⟩) (css.length + 1) c) (css ++ [[c0, c1, c2]]) (pss ++ [ps]) := by
  have hs6 := hb.size
  have hXl := h.lt
  -- what lay below w6's end, but the row, lies as it did
  have h6 : ∀ k, k < w6.heap.size → lk.ownBlock ≠ some k → w8.heap[k]? = w6.heap[k]? := by
    intro k hk hl
    rw [hg.block k (by simp; omega) (fun e => hl e.symm), Below.heap_alloc _ o2 k (by simp; omega), Below.heap_alloc _ o1 k hk]
  have hrl : ∀ k, lk.ownBlock = some k → k < wr.heap.size := by
    intro k e
    rcases h.own.2 with ⟨rfl, _⟩ | ⟨g', c', cur, rfl, _, hg', _⟩
    · cases e
    · obtain rfl : g' = k := by simpa [Value.ownBlock] using e
      rcases Nat.lt_or_ge g' wr.heap.size with h1 | h1
      · exact h1
      · rw [Array.getElem?_eq_none h1] at hg'; cases hg'
  have h4 : w8.heap[X]? = some (.cells #[.bool true, .string ⟨#[]⟩, lk] 75 (0, 0)) := by
    rw [h6 X (by omega) h.row_ne, hb.block X hXl]; exact h.blk
  have hgX : g ≠ X := by
    rintro rfl
    rcases hat with e | e
    · exact h.row_ne e
    · simp at e; omega
  have hgo : ∀ k, k < w6.heap.size → (Value.slice (some ⟨g, 0, none⟩) (css.length + 1) c).ownBlock = some k → lk.ownBlock = some k := by
    intro k hk e
    obtain rfl : g = k := by simpa [Value.ownBlock] using e
    rcases hat with e1 | e1
    · exact e1
    · simp at e1; omega
  have hset : ∀ k, k ≠ X → (w8.setCell ⟨X, 2, none⟩ (.slice (some ⟨g, 0, none⟩) (css.length + 1) c)).heap[k]? = w8.heap[k]? := fun k hk => Below.heap_setCell _ _ _ _ hk
  refine ⟨by rw [cell_of_row w8 X 2 _ _ (0, 0) h4]; rfl, by unfold World.frozen?; simp [h4], fun k hk hl => by rw [h6 k (by omega) hl]; exact hb.block k hk, ⟨by rw [set_same h4]; rfl, ?_, by simp [h.len], ?_, ?_, h.hX⟩⟩
  · have e : (css ++ [[c0, c1, c2]]).flatten = css.flatten ++ [c0, c1, c2] := by simp
    rw [e, List.length_append]
    refine own_far ho (fun k e _ => hset k ?_)
    obtain rfl : g = k := by simpa [Value.ownBlock] using e
    exact hgX
  · intro i hi
    have hbw := h.bel.size
    by_cases hi2 : i < css.length
    · have e1 : (css ++ [[c0, c1, c2]]).getD i [] = css.getD i [] := by rw [List.getD_eq_getElem?_getD, List.getElem?_append_left hi2, ← List.getD_eq_getElem?_getD]
      have e2 : (pss ++ [ps]).getD i [] = pss.getD i [] := by rw [List.getD_eq_getElem?_getD, List.getElem?_append_left (show i < pss.length from h.len ▸ hi2), ← List.getD_eq_getElem?_getD]
      rw [e1, e2]
      refine (h.its i hi2).keep ?_
      rintro k ⟨k1, k3⟩ hk
      refine ⟨?_, k1, fun e => k3 (hgo k (by omega) e)⟩
      rw [hset k (by omega), h6 k (by omega) k3, hb.block k hk]
    · have hie : i = css.length := by simp at hi; omega
      have e1 : (css ++ [[c0, c1, c2]]).getD i [] = [c0, c1, c2] := by simp [List.getD_eq_getElem?_getD, hie]
      have e2 : (pss ++ [ps]).getD i [] = ps := by simp [List.getD_eq_getElem?_getD, hie, h.len]
      rw [e1, e2]
      refine hit.keep ?_
      intro k k1 hk
      have hk3 : lk.ownBlock ≠ some k := fun e => absurd (hrl k e) (by omega)
      refine ⟨?_, by omega, fun e => hk3 (hgo k hk e)⟩
      rw [hset k (by omega), h6 k hk hk3]
  · have hbw := h.bel.size
    have h9 : Below w.heap.size w ((w6.alloc o1).alloc o2) := ((h.bel.trans (hb.mono hbw)).alloc (by omega) _).alloc (by simp; omega) _
    refine (h9.grown hg (by simp; omega) (fun k e => ?_)).setCell h.hX _
    have := own_ge h.own (Nat.le_refl _) k e
    have := h.hX
    omega

theorem ItIs.shape {w : World} {ok : Nat → Prop} {r : Nat} {cs : List Value} {ps : List Prt} (h : ItIs r w ok cs ps) : ∃ (l : Bool) (b : ByteArray) (ao : Option Addr) (lo lc : Nat), cs = [.bool l, .string b, .slice ao lo lc] := by
  cases r with
  | zero => obtain ⟨b, rfl, _⟩ := h; exact ⟨_, _, _, _, _, rfl⟩
  | succ r =>
    rcases h with ⟨b, rfl, _⟩ | ⟨v, css, pss, rfl, ho, _⟩
    · exact ⟨_, _, _, _, _, rfl⟩
    · rcases ho.2 with ⟨rfl, _⟩ | ⟨g, c, cur, rfl, _⟩
      · exact ⟨_, _, _, _, _, rfl⟩
      · exact ⟨_, _, _, _, _, rfl⟩
/-- the list, when it is whole: laid into another block -/
theorem Ls.done {r : Nat} {w wr w' : World} {X R : Nat} {lk : Value} {css : List (List Value)} {pss : List (List Prt)} (h : Ls r w wr X lk css pss) (hR : R < X) (hRw : w.heap.size ≤ R) (hk : ∀ k, k ≠ R → w'.heap[k]? = wr.heap[k]?) :
    ItIs (r + 1) w' (fun k => w.heap.size ≤ k) [.bool true, .string ⟨#[]⟩, lk] ((true, css.length, ⟨#[]⟩) :: pss.flatten) := by
  refine .inr ⟨lk, css, pss, rfl, own_far (own_base h.own (Nat.zero_le _)) (fun g e _ => hk g ?_), fun g e => ?_, h.len, fun i hi => (h.its i hi).keep ?_, rfl⟩
  · have := own_ge h.own (Nat.le_refl _) g e; omega
  · have := own_ge h.own (Nat.le_refl _) g e; omega
  · rintro k ⟨k1, _⟩ _
    exact ⟨hk k (by omega), by omega⟩
end Go.Proofs.YtkegignigkhleaaDoor
namespace Go.Proofs.YtkegignigkhleaaDoor
open Go.RowKit
attribute [local go_sem ↓] Go.wp_at_zero Go.wp_at_succ

/-- cut, inside of d lists -/
def CutOk (s : ByteArray) (r d : Nat) : Prop := ∀ (a limit : Nat) (w : World), a ≤ limit → limit ≤ s.size →
  Calls Tryd.prog 42 #[.string (s.extract a limit), .int .i64 (d : Int)] w fun e w' => CutPost r (readN s r a limit) a w e w'

set_option maxHeartbeats 2000000 in
set_option maxRecDepth 20000 in
/-- a list: the head is none, or it is inside of too many -/
theorem cut_listE (t : ByteArray) (d z : Nat) (w : World) (h0 : 0 < t.size) (ht : t.size ≤ 6000) (hb : byteN t 0 = 192 + z) (hz : z ≤ 63) (er : Int) (her : er ≠ 0) (hsp : spanN t 0 z t.size = ((0, 0), er)) :
    Calls Tryd.prog 42 #[.string t, .int .i64 (d : Int)] w fun e w' => e = .returned (.tuple #[it0, .int .i64 0, .int .i64 er]) ∧ Below w.heap.size w w' := by
  have HB := hide (byteN_eq t 0 h0)
  have h3 : (t[0].toNat : Int) = 192 + (z : Int) := by rw [HB.out]; omega
  have HS : Hid (∀ W, Calls Tryd.prog 54 #[.string t, .int .i64 (192 + (z : Int) - 192)] W fun e w' => e = .returned (.tuple #[.int .i64 0, .int .i64 0, .int .i64 er]) ∧ w' = W) := by
    intro W
    have h := span_any t z W ht hz
    rw [hsp] at h
    rwa [show (z : Int) = 192 + (z : Int) - 192 from by omega] at h
  have b2 : (0 : Int) < (t.size : Int) := by omega
  have b3 : ((t.size : Int) == 0) = false := beq_false_of_ne (by omega)
  have b4 : (z : Int) ≤ 63 := by omega
  have b5 : (0 : Int) ≤ (z : Int) := by omega
  have e1 : (er == 0) = false := beq_false_of_ne her
  have e2 : (er != 0) = true := by simpa using her
  clear hb hsp hz her
  go_enter Tryd.func42, Tryd.ntmps42
  go_wp2_with fail
  refine (HS.out _).mono ?_
  rintro e w1 ⟨rfl, rfl⟩
  go_wp2
  refine bodyPost_ret (v := .tuple #[it0, .int .i64 0, .int .i64 er]) (by simp [results, Tryd.results42, go_sem, it0]) rfl ⟨rfl, ?_⟩
  exact below_alloc _ _
set_option maxHeartbeats 2000000 in
set_option maxRecDepth 20000 in
theorem cut_listD (t : ByteArray) (d z x y : Nat) (w : World) (h0 : 0 < t.size) (ht : t.size ≤ 6000) (hb : byteN t 0 = 192 + z) (hz : z ≤ 63) (hd8 : 8 ≤ d) (hsp : spanN t 0 z t.size = ((x, y), 0)) :
    Calls Tryd.prog 42 #[.string t, .int .i64 (d : Int)] w fun e w' => e = .returned (.tuple #[it0, .int .i64 0, .int .i64 6]) ∧ Below w.heap.size w w' := by
  have HB := hide (byteN_eq t 0 h0)
  have h3 : (t[0].toNat : Int) = 192 + (z : Int) := by rw [HB.out]; omega
  have HS : Hid (∀ W, Calls Tryd.prog 54 #[.string t, .int .i64 (192 + (z : Int) - 192)] W fun e w' => e = .returned (.tuple #[.int .i64 (x : Int), .int .i64 (y : Int), .int .i64 0]) ∧ w' = W) := by
    intro W
    have h := span_any t z W ht hz
    rw [hsp] at h
    rwa [show (z : Int) = 192 + (z : Int) - 192 from by omega] at h
  have b2 : (0 : Int) < (t.size : Int) := by omega
  have b3 : ((t.size : Int) == 0) = false := beq_false_of_ne (by omega)
  have b4 : (z : Int) ≤ 63 := by omega
  have b5 : (0 : Int) ≤ (z : Int) := by omega
  have b6 : (8 : Int) ≤ (d : Int) := by omega
  clear hb hsp hz
  go_enter Tryd.func42, Tryd.ntmps42
  go_wp2_with fail
  refine (HS.out _).mono ?_
  rintro e w1 ⟨rfl, rfl⟩
  go_wp2
  refine bodyPost_ret (v := .tuple #[it0, .int .i64 0, .int .i64 6]) (by simp [results, Tryd.results42, go_sem, it0]) rfl ⟨rfl, ?_⟩
  exact below_alloc _ _
end Go.Proofs.YtkegignigkhleaaDoor
