/-
  OUR OWN: codes: what is read is the code of its parts.
-/
import Derived.Test.YtoafiieciiijbaaKeepH
namespace Go.Proofs.Ytoafiieciiijbaa
open Go.RowKit

/-- an item that was read: its parts, its code at its place -/
def Got (s : ByteArray) (d a limit : Nat) (q : List Prt) (b : Nat) : Prop :=
  a < b ∧ b ≤ limit ∧ ∃ (c : ByteArray) (m : Nat × Nat), Vl textC listC q c ∧ Vl msT msL q m ∧ m.2 ≤ d ∧ Stands s c a ∧ a + c.size = b

theorem got_items (s : ByteArray) (d e : Nat) (R : Nat → Except Int (List Prt × Nat)) (hR : ∀ a q b, a < e → R a = .ok (q, b) → Got s d a e q b) :
    ∀ (fuel a : Nat) (acc : List Prt) (n : Nat) (ps : List Prt) (n' : Nat), a ≤ e → e ≤ s.size → e - a ≤ fuel → itemsA R e fuel a acc n = .ok (ps, n') →
      ∃ (pss : List (List Prt)) (cs : List ByteArray) (ms : List (Nat × Nat)), ps = acc ++ pss.flatten ∧ n' = n + pss.length ∧ pss.length = cs.length ∧ pss.length = ms.length ∧
        (∀ (i : Nat) q x, pss[i]? = some q → cs[i]? = some x → Vl textC listC q x) ∧ (∀ (i : Nat) q x, pss[i]? = some q → ms[i]? = some x → Vl msT msL q x) ∧ (∀ m ∈ ms, m.2 ≤ d) ∧ Stands s (joinB cs) a ∧ a + (joinB cs).size = e := by
  have base : ∀ (a : Nat) (acc : List Prt) (n : Nat) (ps : List Prt) (n' : Nat), a = e → e ≤ s.size → (Except.ok (acc, n) : Except Int (List Prt × Nat)) = .ok (ps, n') →
      ∃ (pss : List (List Prt)) (cs : List ByteArray) (ms : List (Nat × Nat)), ps = acc ++ pss.flatten ∧ n' = n + pss.length ∧ pss.length = cs.length ∧ pss.length = ms.length ∧
        (∀ (i : Nat) q x, pss[i]? = some q → cs[i]? = some x → Vl textC listC q x) ∧ (∀ (i : Nat) q x, pss[i]? = some q → ms[i]? = some x → Vl msT msL q x) ∧ (∀ m ∈ ms, m.2 ≤ d) ∧ Stands s (joinB cs) a ∧ a + (joinB cs).size = e := by
    intro a acc n ps n' ha he h
    injection h with h
    injection h with h1 h2
    have hz : (joinB []).size = 0 := rfl
    exact ⟨[], [], [], by simp [h1], by simp [h2], rfl, rfl, fun i q x h => by simp at h, fun i q x h => by simp at h, fun m h => by simp at h, ⟨by omega, fun i hi => by omega⟩, by omega⟩
  intro fuel
  induction fuel with
  | zero =>
    intro a acc n ps n' ha he hf h
    exact base a acc n ps n' (by omega) he h
  | succ f ih =>
    intro a acc n ps n' ha he hf h
    unfold itemsA at h
    by_cases hlt : a < e
    · rw [if_pos hlt] at h
      cases hr : R a with
      | error x => rw [hr] at h; cases h
      | ok qb =>
        obtain ⟨q, b⟩ := qb
        rw [hr] at h
        simp only at h
        obtain ⟨g1, g2, c, m, g3, g4, g5, g6, g7⟩ := hR a q b hlt hr
        obtain ⟨pss, cs, ms, i1, i2, i3, i4, i5, i6, i7, i8, i9⟩ := ih b (acc ++ q) (n + 1) ps n' g2 he (by omega) h
        refine ⟨q :: pss, c :: cs, m :: ms, by rw [i1]; simp, by rw [i2]; simp; omega, by simp [i3], by simp [i4], ?_, ?_, ?_, ?_, ?_⟩
        · intro i q' x h1 h2
          cases i with
          | zero => simp only [List.getElem?_cons_zero, Option.some.injEq] at h1 h2; subst h1; subst h2; exact g3
          | succ i => exact i5 i q' x (by simpa using h1) (by simpa using h2)
        · intro i q' x h1 h2
          cases i with
          | zero => simp only [List.getElem?_cons_zero, Option.some.injEq] at h1 h2; subst h1; subst h2; exact g4
          | succ i => exact i6 i q' x (by simpa using h1) (by simpa using h2)
        · intro x hx
          rcases List.mem_cons.1 hx with rfl | hx
          · exact g5
          · exact i7 x hx
        · rw [joinB_cons]
          exact Stands.join g6 (by rw [g7]; exact i8)
        · rw [joinB_cons, ByteArray.size_append]; omega
    · rw [if_neg hlt] at h
      exact base a acc n ps n' (by omega) he h

theorem got_read (s : ByteArray) (hs : s.size ≤ 6000) : ∀ (d a limit : Nat) (q : List Prt) (b : Nat), limit ≤ s.size → readN s d a limit = .ok (q, b) → Got s d a limit q b := by
  have key : ∀ (d : Nat), (∀ d', d = d' + 1 → ∀ (a limit : Nat) (q : List Prt) (b : Nat), limit ≤ s.size → readN s d' a limit = .ok (q, b) → Got s d' a limit q b) → ∀ (a limit : Nat) (q : List Prt) (b : Nat), limit ≤ s.size → readN s d a limit = .ok (q, b) → Got s d a limit q b := by
    intro d ih a limit q b hl h
    rw [readN_eq] at h
    unfold readStep at h
    by_cases c1 : limit ≤ a
    · rw [if_pos c1] at h; cases h
    · rw [if_neg c1] at h
      by_cases c2 : byteN s a < 128
      · rw [if_pos c2] at h
        injection h with h
        injection h with h1 h2
        subst h1; subst h2
        have hx := ext_size s a (a + 1) (by omega) (by omega)
        have hb := byteN_extract s a (a + 1) 0 (by omega) (by omega)
        rw [Nat.add_zero] at hb
        have ho : ownC (s.extract a (a + 1)) = true := by
          unfold ownC; rw [hb, hx]; simp [c2]
        have e : textC (s.extract a (a + 1)) = s.extract a (a + 1) := by unfold textC; rw [ho]; rfl
        have hv := Vl.text textC listC (s.extract a (a + 1))
        rw [e] at hv
        exact ⟨by omega, by omega, _, _, hv, Vl.text msT msL _, Nat.zero_le _, Stands.self s a (a + 1) (by omega) (by omega), by rw [hx]; omega⟩
      · rw [if_neg c2] at h
        have hbl := byteN_lt s a
        by_cases c3 : byteN s a < 192
        · rw [if_pos c3] at h
          unfold textN at h
          rcases hsp : spanN s a (byteN s a - 128) limit with ⟨⟨st, en⟩, er⟩
          rw [hsp] at h
          simp only at h
          by_cases c4 : er ≠ 0
          · rw [if_pos c4] at h; cases h
          · rw [if_neg c4] at h
            obtain rfl : er = 0 := by simpa using c4
            cases ho : ownC (s.extract st en) with
            | true => rw [ho] at h; simp at h
            | false =>
              rw [ho] at h
              simp only [Bool.false_eq_true, if_false] at h
              injection h with h
              injection h with h1 h2
              subst h1; subst h2
              obtain ⟨o1, o2, o3, o4, o5⟩ := of_span 128 s a (byteN s a - 128) limit st en (by omega) (by omega) (by omega) hsp hl hs
              have e : textC (s.extract st en) = headS 128 (s.extract st en) := by unfold textC; rw [ho]; rfl
              have hv := Vl.text textC listC (s.extract st en)
              rw [e] at hv
              exact ⟨by omega, o3, _, _, hv, Vl.text msT msL _, Nat.zero_le _, o4, o5⟩
        · rw [if_neg c3] at h
          rcases hsp : spanN s a (byteN s a - 192) limit with ⟨⟨st, en⟩, er⟩
          rw [hsp] at h
          simp only at h
          by_cases c4 : er ≠ 0
          · rw [if_pos c4] at h; cases h
          · rw [if_neg c4] at h
            obtain rfl : er = 0 := by simpa using c4
            obtain ⟨o1, o2, o3, o4, o5⟩ := of_span 192 s a (byteN s a - 192) limit st en (by omega) (by omega) (by omega) hsp hl hs
            cases d with
            | zero => simp [innerN, listN] at h
            | succ d' =>
              unfold innerN listN at h
              simp only at h
              cases hi : itemsA (fun x => readN s d' x en) en (en - st) st [] 0 with
              | error x => rw [hi] at h; cases h
              | ok pn =>
                obtain ⟨ps, n⟩ := pn
                rw [hi] at h
                simp only at h
                injection h with h
                injection h with h1 h2
                subst h1; subst h2
                obtain ⟨pss, cs, ms, i1, i2, i3, i4, i5, i6, i7, i8, i9⟩ := got_items s d' en (fun x => readN s d' x en) (fun a q b _ hr => ih d' rfl a en q b (by omega) hr) (en - st) st [] 0 ps n o2 (by omega) (Nat.le_refl _) hi
                rw [List.nil_append] at i1
                rw [Nat.zero_add] at i2
                subst i1; subst i2
                have ej : joinB cs = s.extract st en := (i8.eq i9).symm
                have v1 := Vl.list textC listC pss cs i3 i5
                have v2 := Vl.list msT msL pss ms i4 i6
                have ec : listC cs = headS 192 (s.extract st en) := by unfold listC; rw [ej]
                rw [ec] at v1
                exact ⟨by omega, o3, _, _, v1, v2, by have := maxM_le ms d' i7; simp only [msL]; omega, o4, o5⟩
  intro d
  induction d with
  | zero => exact key 0 (fun d' h => by omega)
  | succ d ih => exact key (d + 1) (fun d' h => by cases h; exact ih)

/-- Encode undoes Decode -/
theorem fold_data : ∀ (ps : List IPrt) (cs : List ByteArray), foldS textC listC ps = some cs → ∀ p ∈ ps, p.2.2.size ≤ totS cs
  | [], _, _, p, hp => by simp at hp
  | q :: r, cs, h, p, hp => by
    obtain ⟨st, hst, hle⟩ := fold_grows h
    rcases List.mem_cons.1 hp with rfl | hp
    · cases cs with
      | nil => exact absurd (foldS_empty h) (by simp)
      | cons c cs =>
        obtain ⟨_, _, hs, _, hc, _⟩ := foldS_cons h
        rw [totS_cons]
        cases hl : p.1 with
        | true =>
          have : p.2.2.size = 0 := by
            have h1 := hs
            simp [sndP, hl] at h1
            rw [h1.2]; rfl
          omega
        | false =>
          rw [hl] at hc
          simp only [Bool.false_eq_true, if_false] at hc
          have := textC_ge p.2.2
          rw [← hc] at this
          omega
    · have := fold_data r st hst p hp
      omega
theorem enc_dec (s : ByteArray) (qs : List Prt) (h : decN s = .ok qs) : encP (qs.map toI) = (s, 0) ∧ qs.length ≤ 400 ∧ s.size ≤ 6000 ∧ ∀ p ∈ qs.map toI, p.2.2.size ≤ 6000 := by
  unfold decN at h
  by_cases c1 : 6000 < s.size
  · rw [if_pos c1] at h; cases h
  · rw [if_neg c1] at h
    cases hr : readN s 8 0 s.size with
    | error x => rw [hr] at h; cases h
    | ok qe =>
      obtain ⟨q, en⟩ := qe
      rw [hr] at h
      simp only at h
      by_cases c2 : en ≠ s.size
      · rw [if_pos c2] at h; cases h
      · rw [if_neg c2] at h
        by_cases c3 : 400 < q.length
        · rw [if_pos c3] at h; cases h
        · rw [if_neg c3] at h
          injection h with h
          subst h
          obtain ⟨_, _, c, m, g3, g4, g5, g6, g7⟩ := got_read s (by omega) 8 0 s.size q en (Nat.le_refl _) hr
          have e1 : foldS textC listC (q.map toI) = some [c] := by rw [← foldT_nil]; exact g3 []
          have e2 : foldS msT msL (q.map toI) = some [m] := by rw [← foldT_nil]; exact g4 []
          have hmc : MC m c := (fold_MC _ _ _ e2 e1).2 0 m c rfl rfl
          have hsz : c.size = s.size := by
            have : en = s.size := by simpa using c2
            omega
          have hcs : c = s := by
            have h0 := g6.eq (show 0 + c.size = s.size by omega)
            rw [← h0]
            exact (Stands.whole s).eq (by omega)
          refine ⟨?_, by omega, by omega, fun p hp => by have := fold_data _ _ e1 p hp; have e3 : totS [c] = c.size := by simp [totS]
                                                         omega⟩
          have hm1 : m.1 ≤ 6000 := by unfold MC at hmc; omega
          unfold encP
          rw [e1, e2]
          have f1 : ¬ (foldO (0, 0) (some [m])).2 = false := fun h => by cases h
          have f2 : ¬ 8 < (foldO (0, 0) (some [m])).1.2 := by show ¬ 8 < m.2; omega
          have f3 : ¬ 6000 < (foldO (0, 0) (some [m])).1.1 := by show ¬ 6000 < m.1; omega
          rw [if_neg (by rw [List.length_map]; exact c3), if_neg f1, if_neg f2, if_neg f3, ← hcs]
          rfl
end Go.Proofs.Ytoafiieciiijbaa
