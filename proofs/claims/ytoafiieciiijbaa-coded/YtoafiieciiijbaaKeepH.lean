/-
  OUR OWN: codes: a code is read back as the parts that it was made of.
-/
import Derived.Test.YtoafiieciiijbaaKeepG
import Derived.Test.YtoafiieciiijbaaKeepF
import Derived.Test.YtoafiieciiijbaaItemK
namespace Go.Proofs.Ytoafiieciiijbaa
open Go.RowKit

theorem joinB_cons (c : ByteArray) (cs : List ByteArray) : joinB (c :: cs) = c ++ joinB cs := by
  apply ByteArray.ext
  unfold joinB
  rw [ByteArray.data_append]
  simp
theorem headS_pos (mark : Nat) (t : ByteArray) : 0 < (headS mark t).size := by
  unfold headS; rw [ByteArray.size_append, strOfNums_size]
  unfold hdr; split <;> simp <;> omega
theorem textC_pos (t : ByteArray) : 0 < (textC t).size := by
  unfold textC
  cases ho : ownC t with
  | true => simp [ownC] at ho; simp [ho]
  | false => exact headS_pos _ _
theorem headS_ge (mark : Nat) (t : ByteArray) : t.size ≤ (headS mark t).size := by
  unfold headS; rw [ByteArray.size_append]; omega

/-- a text's code is read as the text -/
theorem read_textC (s b : ByteArray) (d a limit : Nat) (h : Stands s (textC b) a) (hl : a + (textC b).size ≤ limit) (hc : (textC b).size ≤ 6000) : readN s d a limit = .ok ([(false, 0, b)], a + (textC b).size) := by
  rw [readN_eq]
  unfold readStep
  have hp := textC_pos b
  rw [if_neg (by omega)]
  cases ho : ownC b with
  | true =>
    have e : textC b = b := by unfold textC; rw [ho]; rfl
    rw [e] at h hl hp ⊢
    have h1 : b.size = 1 ∧ byteN b 0 < 128 := by simpa [ownC] using ho
    have h2 := h.2 0 (by omega)
    rw [Nat.add_zero] at h2
    rw [if_pos (by rw [h2]; exact h1.2), h1.1, h.eq (show a + b.size = a + 1 by rw [h1.1])]
  | false =>
    have e : textC b = headS 128 b := by unfold textC; rw [ho]; rfl
    rw [e] at h hl hp hc ⊢
    obtain ⟨z, h1, h2, h3⟩ := span_of 128 s b a limit h hl (by have := headS_ge 128 b; omega) (by omega)
    rw [if_neg (by omega), if_pos (by omega)]
    unfold textN
    have ez : byteN s a - 128 = z := by omega
    rw [ez, h3]
    have hx : s.extract (a + (headS 128 b).size - b.size) (a + (headS 128 b).size) = b := by
      have hz : (headS 128 b).size = (strOfNums (hdr 128 b.size)).size + b.size := by unfold headS; rw [ByteArray.size_append]
      have h4 := h.append.2
      have e4 : a + (headS 128 b).size - b.size = a + (strOfNums (hdr 128 b.size)).size := by omega
      rw [e4]
      exact h4.eq (by omega)
    simp only [ne_eq, not_true_eq_false, if_false, hx, ho, Bool.false_eq_true]

/-- the parts of one item ahead of others -/
structure Rd (ps : List IPrt) (c : ByteArray) (cs : List ByteArray) (m : Nat × Nat) (ms : List (Nat × Nat)) (q : List Prt) (r : List IPrt) : Prop where
  split : ps = q.map toI ++ r
  lt : r.length < ps.length
  cods : foldS textC listC r = some cs
  meas : foldS msT msL r = some ms
  pos : 0 < c.size
  read : ∀ (s : ByteArray) (d a limit : Nat), Stands s c a → a + c.size ≤ limit → c.size ≤ 6000 → m.2 ≤ d → readN s d a limit = .ok (q, a + c.size)

/-- the parts of some items ahead of others -/
structure Rds (ps : List IPrt) (k : Nat) (st : List ByteArray) (sm : List (Nat × Nat)) (q : List Prt) (r : List IPrt) : Prop where
  split : ps = q.map toI ++ r
  le : r.length ≤ ps.length
  cods : foldS textC listC r = some (st.drop k)
  meas : foldS msT msL r = some (sm.drop k)
  read : ∀ (s : ByteArray) (d a e fuel : Nat) (acc : List Prt) (n : Nat), Stands s (joinB (st.take k)) a → a + (joinB (st.take k)).size = e → (joinB (st.take k)).size ≤ 6000 → maxM (sm.take k) ≤ d → e - a ≤ fuel → itemsA (fun x => readN s d x e) e fuel a acc n = .ok (acc ++ q, n + k)

theorem itemsA_stop (R : Nat → Except Int (List Prt × Nat)) (e fuel : Nat) (acc : List Prt) (n : Nat) : itemsA R e fuel e acc n = .ok (acc, n) := by
  cases fuel with
  | zero => rfl
  | succ m => unfold itemsA; rw [if_neg (by omega)]
theorem maxM_cons (m : Nat × Nat) (ms : List (Nat × Nat)) : maxM (m :: ms) = max m.2 (maxM ms) := by
  unfold maxM
  have : ∀ (l : List Nat) (a b : Nat), l.foldl max (max a b) = max a (l.foldl max b) := by
    intro l
    induction l with
    | nil => intro a b; rfl
    | cons x r ih => intro a b; rw [List.foldl_cons, List.foldl_cons, Nat.max_assoc, ih]
  rw [List.map_cons, List.foldl_cons, Nat.max_comm, this]

theorem rds_of (n : Nat) (ih : ∀ (ps : List IPrt) (c : ByteArray) (cs : List ByteArray) (m : Nat × Nat) (ms : List (Nat × Nat)), ps.length ≤ n → foldS textC listC ps = some (c :: cs) → foldS msT msL ps = some (m :: ms) → ∃ q r, Rd ps c cs m ms q r) :
    ∀ (k : Nat) (ps : List IPrt) (st : List ByteArray) (sm : List (Nat × Nat)), ps.length ≤ n → k ≤ st.length → foldS textC listC ps = some st → foldS msT msL ps = some sm → ∃ q r, Rds ps k st sm q r
  | 0, ps, st, sm, _, _, h1, h2 => ⟨[], ps, ⟨rfl, Nat.le_refl _, h1, h2, fun s d a e fuel acc n _ he _ _ _ => by
      have hz : (joinB (st.take 0)).size = 0 := rfl
      rw [hz] at he
      have : a = e := by omega
      subst this
      rw [itemsA_stop]; simp⟩⟩
  | k + 1, ps, st, sm, hn, hk, h1, h2 => by
    have hlen := (fold_MC ps sm st h2 h1).1
    match st, sm, hk, hlen with
    | c :: cs, m :: ms, hk, hlen =>
      obtain ⟨q, r, hq⟩ := ih ps c cs m ms hn h1 h2
      obtain ⟨q2, r2, hr⟩ := rds_of n ih k r cs ms (by have := hq.lt; omega) (by simpa using hk) hq.cods hq.meas
      refine ⟨q ++ q2, r2, ?_, ?_, hr.cods, hr.meas, ?_⟩
      · rw [hq.split, hr.split]; simp
      · have := hq.lt; have := hr.le; omega
      · intro s d a e fuel acc n hat he hsz hd hfuel
        rw [List.take_succ_cons, joinB_cons] at hat he hsz
        rw [List.take_succ_cons, maxM_cons] at hd
        rw [ByteArray.size_append] at he hsz
        obtain ⟨hat1, hat2⟩ := hat.append
        have hp := hq.pos
        match fuel, hfuel with
        | 0, hf => omega
        | f + 1, hf =>
          unfold itemsA
          rw [if_pos (by omega)]
          simp only [hq.read s d a e hat1 (by omega) (by omega) (by omega)]
          rw [hr.read s d (a + c.size) e f (acc ++ q) (n + 1) hat2 (by omega) (by omega) (by omega) (by omega)]
          rw [List.append_assoc, Nat.add_assoc, Nat.add_comm 1 k]
    | [], _, hk, _ => simp at hk

theorem rd_of : ∀ (n : Nat) (ps : List IPrt) (c : ByteArray) (cs : List ByteArray) (m : Nat × Nat) (ms : List (Nat × Nat)), ps.length ≤ n → foldS textC listC ps = some (c :: cs) → foldS msT msL ps = some (m :: ms) → ∃ q r, Rd ps c cs m ms q r
  | 0, ps, c, cs, m, ms, hn, h1, _ => by
    obtain rfl : ps = [] := List.length_eq_zero_iff.1 (by omega)
    simp [foldS] at h1
  | n + 1, [], c, cs, m, ms, hn, h1, _ => by simp [foldS] at h1
  | n + 1, p :: r, c, cs, m, ms, hn, h1, h2 => by
    obtain ⟨st, hst, hs, hle, hc, hcs⟩ := foldS_cons h1
    obtain ⟨sm, hsm, _, _, hm, hms⟩ := foldS_cons h2
    have hnn : r.length ≤ n := by simpa using hn
    have hlen := (fold_MC r sm st hsm hst).1
    obtain ⟨l, ct, b⟩ := p
    have h0 := snd_count hs
    cases l with
    | false =>
      obtain rfl : ct = 0 := by simpa [sndP] using hs
      simp only [Bool.false_eq_true, if_false, Int.toNat_zero, List.drop_zero] at hc hm hcs hms
      subst hc; subst hm; subst hcs; subst hms
      exact ⟨[(false, 0, b)], r, ⟨rfl, by simp, hst, hsm, textC_pos b, fun s d a limit hat hl hsz _ => read_textC s b d a limit hat hl hsz⟩⟩
    | true =>
      obtain ⟨k, rfl⟩ : ∃ k : Nat, ct = (k : Int) := ⟨ct.toNat, by simp only at h0; omega⟩
      obtain rfl : b = ⟨#[]⟩ := by
        have : b.size = 0 := by simpa [sndP] using hs
        exact ByteArray.ext (Array.eq_empty_of_size_eq_zero this)
      simp only [if_true, Int.toNat_natCast] at hc hm hcs hms hle
      obtain ⟨q, r2, hq⟩ := rds_of n (rd_of n) k r st sm hnn (by omega) hst hsm
      subst hc; subst hm; subst hcs; subst hms
      refine ⟨(true, k, ⟨#[]⟩) :: q, r2, ⟨by rw [hq.split]; rfl, by have := hq.le; simp; omega, hq.cods, hq.meas, headS_pos _ _, ?_⟩⟩
      intro s d a limit hat hl hsz hd
      have hge := headS_ge 192 (joinB (st.take k))
      have hsz' : (headS 192 (joinB (st.take k))).size ≤ 6000 := hsz
      have hpos := headS_pos 192 (joinB (st.take k))
      obtain ⟨z, z1, z2, z3⟩ := span_of 192 s (joinB (st.take k)) a limit hat hl (by omega) (by omega)
      have hat2 := hat.append.2
      have hz : (headS 192 (joinB (st.take k))).size = (strOfNums (hdr 192 (joinB (st.take k)).size)).size + (joinB (st.take k)).size := by unfold headS; rw [ByteArray.size_append]
      rw [show listC (st.take k) = headS 192 (joinB (st.take k)) from rfl]
      have hl' : a + (headS 192 (joinB (st.take k))).size ≤ limit := hl
      have hbl := byteN_lt s a
      rw [readN_eq]
      unfold readStep
      have ez : byteN s a - 192 = z := by omega
      rw [if_neg (by omega), if_neg (by omega), if_neg (by omega), ez, z3]
      simp only [ne_eq, not_true_eq_false, if_false]
      have hd1 : maxM (sm.take k) + 1 ≤ d := hd
      obtain ⟨d', rfl⟩ : ∃ d', d = d' + 1 := ⟨d - 1, by omega⟩
      have e4 : a + (headS 192 (joinB (st.take k))).size - (joinB (st.take k)).size = a + (strOfNums (hdr 192 (joinB (st.take k)).size)).size := by omega
      have hrd := hq.read s d' (a + (strOfNums (hdr 192 (joinB (st.take k)).size)).size) (a + (headS 192 (joinB (st.take k))).size) (a + (headS 192 (joinB (st.take k))).size - (a + (strOfNums (hdr 192 (joinB (st.take k)).size)).size)) [] 0 hat2 (by omega) (by omega) (by omega) (Nat.le_refl _)
      rw [e4]
      unfold innerN listN
      simp only [hrd]
      simp

/-- Decode undoes Encode -/
theorem dec_enc (qs : List Prt) (c : ByteArray) (m : Nat × Nat) (hn : qs.length ≤ 400) (h1 : foldS textC listC (qs.map toI) = some [c]) (h2 : foldS msT msL (qs.map toI) = some [m]) (hd : m.2 ≤ 8) (hz : m.1 ≤ 6000) : decN c = .ok qs := by
  have hmc : MC m c := (fold_MC _ _ _ h2 h1).2 0 m c rfl rfl
  have hc : c.size ≤ 6000 := by unfold MC at hmc; omega
  obtain ⟨q, r, hq⟩ := rd_of _ _ c [] m [] (Nat.le_refl _) h1 h2
  obtain rfl : r = [] := foldS_empty hq.cods
  have hqq : qs = q := by
    have h := hq.split
    rw [List.append_nil] at h
    refine List.map_inj_right ?_ |>.1 h
    rintro ⟨x1, x2, x3⟩ ⟨y1, y2, y3⟩ hxy
    simp only [toI, Prod.mk.injEq] at hxy
    obtain ⟨rfl, h2, rfl⟩ := hxy
    have : x2 = y2 := by omega
    rw [this]
  unfold decN
  rw [if_neg (by omega), hq.read c 8 0 c.size (Stands.whole c) (by omega) hc hd]
  simp only [Nat.zero_add, ne_eq, not_true_eq_false, if_false]
  rw [hqq] at hn ⊢
  rw [if_neg (by omega)]
end Go.Proofs.Ytoafiieciiijbaa
