/-
  OUR OWN: plain facts on the reference's hash: the padded text, its blocks.
-/
import Derived.Test.YtbdkgepidhijlaaDoorKecK
namespace Go.Proofs.YtbdkgepidhijlaaDoor
open Go.RowKit

/-- the text, a 1, and k noughts -/
def padK (l : List UInt8) (k : Nat) : List UInt8 := l ++ 1 :: List.replicate k 0
theorem padK_length (l : List UInt8) (k : Nat) : (padK l k).length = l.length + 1 + k := by simp [padK]; omega
theorem padK_snoc (l : List UInt8) (k : Nat) : padK l k ++ [0] = padK l (k + 1) := by
  simp only [padK, List.append_assoc, List.cons_append, List.replicate_succ']
/-- the whole of it: the last byte joined with 128 -/
def fullL (l : List UInt8) : List UInt8 := (padK l (135 - l.length % 136)).set (l.length + 1 + (135 - l.length % 136) - 1) ((padK l (135 - l.length % 136)).getD (l.length + 1 + (135 - l.length % 136) - 1) 0 ||| 128)
theorem fullL_length (l : List UInt8) : (fullL l).length = 136 * (l.length / 136 + 1) := by
  unfold fullL
  rw [List.length_set, padK_length]
  omega
theorem full_low (l : List UInt8) (m : Nat) (h : m < l.length / 136) (i : Nat) (hi : i < 136) : (fullL l).getD (136 * m + i) 0 = l.getD (136 * m + i) 0 := by
  have hlt : 136 * m + i < l.length := by omega
  unfold fullL
  rw [List.getD_eq_getElem?_getD, List.getElem?_set_ne (by omega), List.getD_eq_getElem?_getD]
  unfold padK
  rw [List.getElem?_append_left hlt]
theorem full_top (l : List UInt8) (i : Nat) (hi : i < 136) : (fullL l).getD (136 * (l.length / 136) + i) 0 = (padL (l.drop (136 * (l.length / 136)))).getD i 0 := by
  obtain ⟨q, hq⟩ : ∃ q, l.length / 136 = q := ⟨_, rfl⟩
  rw [hq]
  have hr : (l.drop (136 * q)).length = l.length % 136 := by rw [List.length_drop]; omega
  obtain ⟨r, hrr⟩ : ∃ r, l.length % 136 = r := ⟨_, rfl⟩
  have hl : l.length = 136 * q + r := by omega
  unfold fullL
  rw [hrr]
  rw [hrr] at hr
  have hpk : ∀ j, j < 136 → (padK l (135 - r))[136 * q + j]? = some (if j < r then (l.drop (136 * q)).getD j 0 else if j = r then 1 else 0) := by
    intro j hj
    unfold padK
    by_cases h1 : j < r
    · rw [List.getElem?_append_left (by omega), if_pos h1]
      rw [List.getD_eq_getElem?_getD, List.getElem?_drop, List.getElem?_eq_getElem (by omega)]; rfl
    · rw [List.getElem?_append_right (by omega), if_neg h1, show 136 * q + j - l.length = j - r from by omega]
      by_cases h2 : j = r
      · rw [if_pos h2, h2, Nat.sub_self]; rfl
      · rw [if_neg h2]
        obtain ⟨t, ht⟩ : ∃ t, j - r = t + 1 := ⟨j - r - 1, by omega⟩
        rw [ht, List.getElem?_cons_succ, List.getElem?_replicate, if_pos (by omega)]
  have hidx : l.length + 1 + (135 - r) - 1 = 136 * q + 135 := by omega
  rw [hidx]
  rw [List.getD_eq_getElem?_getD]
  by_cases h135 : i = 135
  · subst h135
    rw [List.getElem?_set_self (by rw [padK_length]; omega), List.getD_eq_getElem?_getD, hpk 135 (by omega)]
    unfold padL
    rw [hr]
    by_cases hr135 : r = 135
    · rw [if_pos hr135, if_neg (by omega), if_pos hr135.symm]
      rw [List.getD_eq_getElem?_getD, List.getElem?_append_right (by omega), show 135 - (l.drop (136 * q)).length = 0 from by omega]
      rfl
    · rw [if_neg hr135, if_neg (by omega), if_neg (by omega)]
      rw [List.getD_eq_getElem?_getD, List.getElem?_append_right (by omega), hr]
      obtain ⟨t, ht⟩ : ∃ t, 135 - r = t + 1 := ⟨134 - r, by omega⟩
      rw [ht, List.getElem?_cons_succ, List.getElem?_append_right (by simp; omega)]
      simp [show t - (134 - r) = 0 from by omega]
  · rw [List.getElem?_set_ne (by omega), hpk i hi]
    unfold padL
    rw [hr]
    by_cases hr135 : r = 135
    · rw [if_pos hr135, if_pos (by omega)]
      rw [List.getD_eq_getElem?_getD (l := _ ++ _), List.getElem?_append_left (by omega)]
      rw [List.getD_eq_getElem?_getD]; rfl
    · rw [if_neg hr135]
      by_cases h1 : i < r
      · rw [if_pos h1, List.getD_eq_getElem?_getD (l := _ ++ _), List.getElem?_append_left (by omega), List.getD_eq_getElem?_getD]; rfl
      · rw [if_neg h1, List.getD_eq_getElem?_getD (l := _ ++ _), List.getElem?_append_right (by omega), hr]
        by_cases h2 : i = r
        · rw [if_pos h2, h2, Nat.sub_self]; rfl
        · rw [if_neg h2]
          obtain ⟨t, ht⟩ : ∃ t, i - r = t + 1 := ⟨i - r - 1, by omega⟩
          rw [ht, List.getElem?_cons_succ, List.getElem?_append_left (by simp; omega), List.getElem?_replicate, if_pos (by omega)]

/-- the reference's state behind m blocks: it reads the padded text -/
def xorB (f : Nat → Nat) (l : List UInt8) (a : Nat) : Nat → Nat := fun j => f j ^^^ leTo (fun i => (l.getD (a + (8 * j + i)) 0).toNat) 8
def rfTo (l : List UInt8) : Nat → Nat → Nat
  | 0 => zeroF
  | m + 1 => permTo (upTo 17 (xorB (rfTo l m) l (136 * m)) (rfTo l m)) 24
theorem xorB_w {f : Nat → Nat} (h : ∀ j, W64 (f j)) (l : List UInt8) (a j : Nat) : W64 (xorB f l a j) := W64.xor (h j) (leTo_w (fun _ => UInt8.toNat_lt _))
theorem rfTo_w (l : List UInt8) : ∀ m j, W64 (rfTo l m j)
  | 0, j => zeroF_w j
  | m + 1, j => permTo_w (upTo_w (xorB_w (rfTo_w l m) l _) (rfTo_w l m)) 24 j
theorem round_fun {f g : Nat → Nat} {s : ByteArray} {l : List UInt8} {a : Nat} (hfg : f = g) (h : ∀ i, i < 136 → bt s i = (l.getD (a + i) 0).toNat) : permTo (upTo 17 (xorB f l a) f) 24 = absF g s := by
  subst hfg
  unfold absF
  congr 1
  funext j
  unfold upTo
  by_cases hj : j < 17
  · rw [if_pos hj, if_pos hj]
    unfold xorB xorIn blockW
    rw [leTo_congr 8 (fun i hi => (h (8 * j + i) (by omega)).symm)]
  · rw [if_neg hj, if_neg hj]
theorem rf_sp (s : ByteArray) : ∀ m, m ≤ s.size / 136 → rfTo (fullL s.data.toList) m = spTo s m
  | 0, _ => rfl
  | m + 1, h => by
    have e : s.data.toList.length = s.size := by rw [Array.length_toList]; rfl
    refine round_fun (rf_sp s m (by omega)) (fun i hi => ?_)
    rw [bt_extract s (136 * m) (136 * m + 136) i (by omega), full_low _ m (by rw [e]; omega) i hi]
    rfl
theorem rf_last (s : ByteArray) : rfTo (fullL s.data.toList) (s.size / 136 + 1) = absF (spTo s (s.size / 136)) (padS (s.extract (136 * (s.size / 136)) s.size)) := by
  have e : s.data.toList.length = s.size := by rw [Array.length_toList]; rfl
  refine round_fun (rf_sp s _ (Nat.le_refl _)) (fun i hi => ?_)
  have h := full_top s.data.toList i hi
  rw [e] at h
  rw [h]
  unfold bt padS
  rw [Lib.extract_data, List.take_of_length_le (by rw [List.length_drop, e]; exact Nat.le_refl _)]

/-- from the highest byte down -/
def hiTo (g : Nat → Nat) : Nat → Nat
  | 0 => 0
  | c + 1 => hiTo g c * 256 + g (7 - c)
theorem hiTo_lt (g : Nat → Nat) (h : ∀ j, g j < 256) : ∀ c, hiTo g c < 256 ^ c
  | 0 => by simp [hiTo]
  | c + 1 => by
    have h1 := hiTo_lt g h c
    have h2 := h (7 - c)
    simp only [hiTo, Nat.pow_succ]
    omega
theorem hi_le (g : Nat → Nat) : hiTo g 8 = leTo g 8 := by
  simp [hiTo, leTo]
  omega
theorem hi_step (g : Nat → Nat) (h : ∀ j, g j < 256) (c : Nat) (hc : c < 8) : bits BinOp.or IntKind.u64 (IntKind.u64.wrap ((hiTo g c : Nat) * 256)) ((g (7 - c) : Nat) : Int) = ((hiTo g (c + 1) : Nat) : Int) := by
  have h1 := hiTo_lt g h c
  have hp : 256 ^ c ≤ 256 ^ 7 := Nat.pow_le_pow_right (by omega) (by omega)
  have h2 := h (7 - c)
  have hx : hiTo g c * 256 < 18446744073709551616 := by omega
  have e1 : IntKind.u64.wrap ((hiTo g c : Nat) * 256) = ((hiTo g c * 256 : Nat) : Int) := by
    rw [IntKind.wrap_u64]; omega
  rw [e1, u64_or_nat _ _ hx (by omega), nat_join 8 _ _ (by omega) (by omega)]
  rfl
def sliceLen : Value → Nat | .slice _ n _ => n | _ => 0

end Go.Proofs.YtbdkgepidhijlaaDoor
