/-
  OUR OWN: codes: bytes at places; a code's head written and read.
-/
import Derived.Test.YtoafiieciiijbaaEncG
namespace Go.Proofs.Ytoafiieciiijbaa
open Go.RowKit

theorem byteN_left (x y : ByteArray) (i : Nat) (h : i < x.size) : byteN (x ++ y) i = byteN x i := by
  unfold byteN
  rw [ByteArray.data_append, Array.toList_append, List.getD_eq_getElem?_getD, List.getD_eq_getElem?_getD, List.getElem?_append_left (by rw [Array.length_toList]; exact h)]
theorem byteN_right (x y : ByteArray) (i : Nat) : byteN (x ++ y) (x.size + i) = byteN y i := by
  unfold byteN
  have e : x.data.toList.length = x.size := Array.length_toList
  rw [ByteArray.data_append, Array.toList_append, List.getD_eq_getElem?_getD, List.getD_eq_getElem?_getD, List.getElem?_append_right (by rw [e]; omega), e, Nat.add_sub_cancel_left]
theorem byteN_ext {x y : ByteArray} (hs : x.size = y.size) (h : ∀ i, i < x.size → byteN x i = byteN y i) : x = y := by
  apply ByteArray.ext
  apply Array.ext hs
  intro i h1 h2
  have := h i h1
  unfold byteN at this
  rw [List.getD_eq_getElem?_getD, List.getD_eq_getElem?_getD, List.getElem?_eq_getElem (by rw [Array.length_toList]; exact h1), List.getElem?_eq_getElem (by rw [Array.length_toList]; exact h2)] at this
  exact UInt8.toNat_inj.1 (by simpa using this)
theorem byteN_nums (l : List Int) (i v : Nat) (h : l[i]? = some (v : Int)) (hv : v < 256) : byteN (strOfNums l) i = v := by
  unfold byteN
  rw [strOfNums_data, List.getD_eq_getElem?_getD, List.getElem?_map, h]
  simp
  omega
theorem byteN_extract (s : ByteArray) (a b i : Nat) (hb : b ≤ s.size) (h : a + i < b) : byteN (s.extract a b) i = byteN s (a + i) := by
  have h1 : i < (s.extract a b).size := by simp [ByteArray.size_extract]; omega
  have h2 : a + i < s.size := by omega
  rw [← byteN_eq _ _ h1, ← byteN_eq _ _ h2, ByteArray.getElem_extract]

/-- the bytes of c stand in s from a place on -/
def Stands (s c : ByteArray) (a : Nat) : Prop := a + c.size ≤ s.size ∧ ∀ i, i < c.size → byteN s (a + i) = byteN c i
theorem Stands.append {s x y : ByteArray} {a : Nat} (h : Stands s (x ++ y) a) : Stands s x a ∧ Stands s y (a + x.size) := by
  have e : (x ++ y).size = x.size + y.size := ByteArray.size_append
  refine ⟨⟨by have := h.1; omega, fun i hi => ?_⟩, ⟨by have := h.1; omega, fun i hi => ?_⟩⟩
  · rw [h.2 i (by omega), byteN_left _ _ _ hi]
  · rw [Nat.add_assoc, h.2 (x.size + i) (by omega), byteN_right]
theorem Stands.join {s x y : ByteArray} {a : Nat} (h1 : Stands s x a) (h2 : Stands s y (a + x.size)) : Stands s (x ++ y) a := by
  have e : (x ++ y).size = x.size + y.size := ByteArray.size_append
  refine ⟨by have := h2.1; omega, fun i hi => ?_⟩
  by_cases hx : i < x.size
  · rw [h1.2 i hx, byteN_left _ _ _ hx]
  · obtain ⟨j, rfl⟩ : ∃ j, i = x.size + j := ⟨i - x.size, by omega⟩
    rw [← Nat.add_assoc, h2.2 j (by omega), byteN_right]
theorem Stands.eq {s c : ByteArray} {a b : Nat} (h : Stands s c a) (hb : a + c.size = b) : s.extract a b = c := by
  have hz : (s.extract a b).size = c.size := by have := h.1; rw [ext_size s a b (by omega) (by omega)]; omega
  refine byteN_ext hz fun i hi => ?_
  rw [byteN_extract s a b i (by have := h.1; omega) (by omega), h.2 i (by omega)]
theorem Stands.self (s : ByteArray) (a b : Nat) (h : a ≤ b) (hb : b ≤ s.size) : Stands s (s.extract a b) a := by
  have hz := ext_size s a b h hb
  exact ⟨by omega, fun i hi => by rw [byteN_extract s a b i hb (by omega)]⟩
theorem Stands.whole (s : ByteArray) : Stands s s 0 := ⟨by omega, fun i _ => by rw [Nat.zero_add]⟩

theorem hdr_one (mark n : Nat) (h : n ≤ 55) : hdr mark n = [((mark + n : Nat) : Int)] := by unfold hdr; rw [if_pos h]
theorem hdr_two (mark n : Nat) (h : 55 < n) (h2 : n < 256) : hdr mark n = [((mark + 56 : Nat) : Int), (n : Int)] := by
  have hc : cntB n = 1 := by unfold cntB; rw [if_neg (by omega), if_pos h2]
  unfold hdr; rw [if_neg (by omega)]
  unfold lenS
  rw [hc]
  simp only [leN, List.reverse_cons, List.reverse_nil, List.nil_append]
  rw [Nat.mod_eq_of_lt h2]
theorem hdr_three (mark n : Nat) (h : 256 ≤ n) (h2 : n < 65536) : hdr mark n = [((mark + 57 : Nat) : Int), ((n / 256 : Nat) : Int), ((n % 256 : Nat) : Int)] := by
  have hc : cntB n = 2 := by unfold cntB; rw [if_neg (by omega), if_neg (by omega), if_pos h2]
  unfold hdr; rw [if_neg (by omega)]
  unfold lenS
  rw [hc]
  simp only [leN, List.reverse_cons, List.reverse_nil, List.nil_append, List.cons_append]
  rw [Nat.mod_eq_of_lt (show n / 256 < 256 by omega)]

/-- where a head stands it is read as one -/
theorem span_of (mark : Nat) (s t : ByteArray) (a limit : Nat) (h : Stands s (headS mark t) a) (hl : a + (headS mark t).size ≤ limit) (hs : t.size ≤ 6000) (hm : mark ≤ 192) :
    ∃ z, byteN s a = mark + z ∧ z ≤ 63 ∧ spanN s a z limit = ((a + (headS mark t).size - t.size, a + (headS mark t).size), 0) := by
  have hz : (headS mark t).size = (hdr mark t.size).length + t.size := by unfold headS; rw [ByteArray.size_append, strOfNums_size]
  have h1 : Stands s (strOfNums (hdr mark t.size)) a := h.append.1
  have hb : ∀ i v : Nat, (hdr mark t.size)[i]? = some (v : Int) → v < 256 → byteN s (a + i) = v := by
    intro i v hi hv
    have hlt : i < (strOfNums (hdr mark t.size)).size := by rw [strOfNums_size]; exact (List.getElem?_eq_some_iff.1 hi).1
    rw [h1.2 i hlt, byteN_nums _ i v hi hv]
  by_cases c1 : t.size ≤ 55
  · have hh := hdr_one mark t.size c1
    rw [hh] at hz hb
    simp only [List.length_cons, List.length_nil] at hz
    refine ⟨t.size, hb 0 _ rfl (by omega), by omega, ?_⟩
    unfold spanN
    rw [if_pos c1, if_neg (by omega)]
    have e1 : a + (headS mark t).size - t.size = a + 1 := by omega
    have e2 : a + (headS mark t).size = a + 1 + t.size := by omega
    rw [e1, e2]
  · by_cases c2 : t.size < 256
    · have hh := hdr_two mark t.size (by omega) c2
      rw [hh] at hz hb
      simp only [List.length_cons, List.length_nil] at hz
      have b1 : byteN s (a + 1) = t.size := hb 1 _ rfl c2
      have hL : lenN s (a + 1) 1 limit = ((t.size : Int), 0) := by
        unfold lenN
        have hn : numN s (a + 1) 1 = t.size := by simp [numN, b1]
        rw [if_neg (by omega), if_neg (by omega), hn, if_neg (by omega), Nat.min_eq_left (by omega)]
      refine ⟨56, hb 0 _ rfl (by omega), by omega, ?_⟩
      unfold spanN
      rw [if_neg (by omega)]
      simp only [show 56 - 55 = 1 from rfl, hL]
      rw [if_neg (by simp), if_neg (by omega)]
      have e1 : a + (headS mark t).size - t.size = a + 1 + 1 := by omega
      have e2 : a + (headS mark t).size = a + 1 + 1 + t.size := by omega
      rw [e1, e2]
      simp
    · have hh := hdr_three mark t.size (by omega) (by omega)
      rw [hh] at hz hb
      simp only [List.length_cons, List.length_nil] at hz
      have b1 : byteN s (a + 1) = t.size / 256 := hb 1 _ rfl (by omega)
      have b2 : byteN s (a + 2) = t.size % 256 := hb 2 _ rfl (by omega)
      have hL : lenN s (a + 1) 2 limit = ((t.size : Int), 0) := by
        unfold lenN
        have hn : numN s (a + 1) 2 = t.size := by
          simp only [numN, Nat.add_zero]
          rw [b1, show a + 1 + 1 = a + 2 from rfl, b2]; omega
        rw [if_neg (by omega), if_neg (by omega), hn, if_neg (by omega), Nat.min_eq_left (by omega)]
      refine ⟨57, hb 0 _ rfl (by omega), by omega, ?_⟩
      unfold spanN
      rw [if_neg (by omega)]
      simp only [show 57 - 55 = 2 from rfl, hL]
      rw [if_neg (by simp), if_neg (by omega)]
      have e1 : a + (headS mark t).size - t.size = a + 1 + 2 := by omega
      have e2 : a + (headS mark t).size = a + 1 + 2 + t.size := by omega
      rw [e1, e2]
      simp

theorem numN_ge (s : ByteArray) (a : Nat) (h : byteN s a ≠ 0) : ∀ k, 256 ^ k ≤ numN s a (k + 1)
  | 0 => by simp [numN]; omega
  | k + 1 => by
    have := numN_ge s a h k
    rw [numN, Nat.pow_succ]
    omega
/-- what is read as a head is one -/
theorem of_span (mark : Nat) (s : ByteArray) (a z limit st en : Nat) (hb : byteN s a = mark + z) (hz : z ≤ 63) (hm : mark ≤ 192) (h : spanN s a z limit = ((st, en), 0)) (hl : limit ≤ s.size) (hs : s.size ≤ 6000) :
    a < st ∧ st ≤ en ∧ en ≤ limit ∧ Stands s (headS mark (s.extract st en)) a ∧ a + (headS mark (s.extract st en)).size = en := by
  have key : ∀ k, st = a + k → st ≤ en → en ≤ limit → 0 < k → (hdr mark (en - st)).length = k → (∀ i, i < k → ∃ v : Nat, (hdr mark (en - st))[i]? = some (v : Int) ∧ v < 256 ∧ byteN s (a + i) = v) →
      a < st ∧ st ≤ en ∧ en ≤ limit ∧ Stands s (headS mark (s.extract st en)) a ∧ a + (headS mark (s.extract st en)).size = en := by
    intro k h1 h2 h3 h4 h5 h6
    have hx := ext_size s st en h2 (by omega)
    have hlen : (strOfNums (hdr mark (en - st))).size = k := by rw [strOfNums_size, h5]
    refine ⟨by omega, h2, h3, ?_, ?_⟩
    · unfold headS
      rw [hx]
      refine Stands.join ⟨by omega, fun i hi => ?_⟩ (by rw [hlen, ← h1]; exact Stands.self s st en h2 (by omega))
      obtain ⟨v, v1, v2, v3⟩ := h6 i (by omega)
      rw [v3, byteN_nums _ i v v1 v2]
    · unfold headS
      rw [ByteArray.size_append, hx, hlen]; omega
  have hbl := byteN_lt s a
  unfold spanN at h
  by_cases c1 : z ≤ 55
  · rw [if_pos c1] at h
    by_cases c2 : limit < a + 1 + z
    · rw [if_pos c2] at h; simp at h
    · rw [if_neg c2] at h
      simp only [Prod.mk.injEq, and_true] at h
      obtain ⟨rfl, rfl⟩ := h
      have e : a + 1 + z - (a + 1) = z := by omega
      refine key 1 rfl (by omega) (by omega) (by omega) (by rw [e, hdr_one mark z c1]; rfl) (fun i hi => ?_)
      obtain rfl : i = 0 := by omega
      rw [e, hdr_one mark z c1]
      exact ⟨mark + z, rfl, by omega, hb⟩
  · rw [if_neg c1] at h
    rcases lenN_cases s (a + 1) (z - 55) limit with ⟨_, h2⟩ | ⟨L, hL1, hL2, hL⟩
    · rw [if_pos (by rcases h2 with h2 | h2 <;> rw [h2] <;> decide)] at h
      have : (lenN s (a + 1) (z - 55) limit).2 = 0 := by simpa using congrArg Prod.snd h
      rcases h2 with h2 | h2 <;> rw [h2] at this <;> cases this
    · rw [hL] at h
      simp only [ne_eq, not_true_eq_false, if_false, Int.toNat_natCast] at h
      by_cases c2 : (limit : Int) < ((a + 1 + (z - 55) : Nat) : Int) + (L : Int)
      · rw [if_pos c2] at h; simp at h
      · rw [if_neg c2] at h
        simp only [Prod.mk.injEq, and_true] at h
        obtain ⟨rfl, rfl⟩ := h
        unfold lenN at hL
        by_cases d1 : limit < a + 1 + (z - 55)
        · omega
        · rw [if_neg d1] at hL
          by_cases d2 : byteN s (a + 1) = 0
          · rw [if_pos d2] at hL; simp at hL
          · rw [if_neg d2] at hL
            by_cases d3 : numN s (a + 1) (z - 55) ≤ 55
            · rw [if_pos d3] at hL; simp at hL
            · rw [if_neg d3] at hL
              simp only [Prod.mk.injEq, and_true] at hL
              have hL3 : numN s (a + 1) (z - 55) = L := by omega
              have e : a + 1 + (z - 55) + L - (a + 1 + (z - 55)) = L := by omega
              obtain ⟨k, hk⟩ : ∃ k, z - 55 = k + 1 := ⟨z - 56, by omega⟩
              have hge := numN_ge s (a + 1) d2 k
              rw [← hk, hL3] at hge
              match k, hk, hge with
              | 0, hk, _ =>
                obtain rfl : z = 56 := by omega
                have hn : byteN s (a + 1) = L := by rw [← hL3]; simp [numN]
                have hbl2 := byteN_lt s (a + 1)
                have hh := hdr_two mark L (by omega) (by omega)
                refine key 2 rfl (by omega) (by omega) (by omega) (by rw [e, hh]; rfl) (fun i hi => ?_)
                rw [e, hh]
                match i, hi with
                | 0, _ => exact ⟨mark + 56, rfl, by omega, hb⟩
                | 1, _ => exact ⟨L, rfl, by omega, hn⟩
              | 1, hk, hge =>
                obtain rfl : z = 57 := by omega
                have hn : byteN s (a + 1) * 256 + byteN s (a + 2) = L := by rw [← hL3]; simp [numN]
                have hbl2 := byteN_lt s (a + 1)
                have hbl3 := byteN_lt s (a + 2)
                have hh := hdr_three mark L (by omega) (by omega)
                refine key 3 rfl (by omega) (by omega) (by omega) (by rw [e, hh]; rfl) (fun i hi => ?_)
                rw [e, hh]
                match i, hi with
                | 0, _ => exact ⟨mark + 57, rfl, by omega, hb⟩
                | 1, _ => exact ⟨L / 256, rfl, by omega, by omega⟩
                | 2, _ => exact ⟨L % 256, rfl, by omega, by omega⟩
              | k + 2, _, hge =>
                have : 256 ^ 2 ≤ 256 ^ (k + 2) := Nat.pow_le_pow_right (by decide) (by omega)
                omega
end Go.Proofs.Ytoafiieciiijbaa
