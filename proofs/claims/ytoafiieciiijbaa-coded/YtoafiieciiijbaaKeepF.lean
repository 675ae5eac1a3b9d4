/-
  OUR OWN: the walk of canopykeep.size.
-/
import Derived.Test.YtoafiieciiijbaaKeepE
namespace Go.Proofs.Ytoafiieciiijbaa
open Go.RowKit
attribute [local go_sem ↓] Go.wp_at_zero Go.wp_at_succ

/-- what stands behind a part -/
theorem foldS_cons {T : Type} {txt : ByteArray → T} {lst : List T → T} {p : IPrt} {r : List IPrt} {x : T} {xs : List T} (h : foldS txt lst (p :: r) = some (x :: xs)) : ∃ st, foldS txt lst r = some st ∧ sndP p = true ∧ p.2.1 ≤ (st.length : Int) ∧ x = (if p.1 = true then lst (st.take p.2.1.toNat) else txt p.2.2) ∧ xs = st.drop p.2.1.toNat := by
  unfold foldS at h
  split at h
  · cases h
  · rename_i st hst
    split at h
    · rename_i hb
      simp only [Option.some.injEq, List.cons.injEq] at h
      exact ⟨st, hst, hb.1, hb.2, h.1.symm, h.2.symm⟩
    · cases h
theorem totP_le_drop (ps : List IPrt) (a : Nat) {B : Nat} (h : totP ps < B) : totP (ps.drop a) < B := Nat.lt_of_le_of_lt (totP_drop ps a) h
theorem drop_cons {α : Type} (st : List α) (q : Nat) (h : q < st.length) (d : α) : st.drop q = st.getD q d :: st.drop (q + 1) := by
  have e : st.getD q d = st[q] := by simp [List.getD_eq_getElem?_getD, h]
  rw [e]; exact List.drop_eq_getElem_cons h
theorem totS_snoc (st : List ByteArray) (q : Nat) (h : q < st.length) : totS (st.take (q + 1)) = totS (st.take q) + (st.getD q ⟨#[]⟩).size := by
  have e : st.getD q ⟨#[]⟩ = st[q] := by simp [List.getD_eq_getElem?_getD, h]
  rw [e, List.take_succ_eq_append_getElem h, totS_append]
  simp [totS]

def SzPost (ps : List IPrt) (c : ByteArray) (m : Nat × Nat) (cs : List ByteArray) (ms : List (Nat × Nat)) (a : Nat) (w : World) (e : Ending) (w' : World) : Prop :=
  ∃ a' : Nat, e = .returned (.tuple #[.int .i64 (c.size : Int), .int .i64 (a' : Int), .int .i64 (m.2 : Int)]) ∧ a < a' ∧ a' ≤ ps.length ∧ foldS textC listC (ps.drop a') = some cs ∧ foldS msT msL (ps.drop a') = some ms ∧ Below w.heap.size w w'

set_option maxHeartbeats 2000000 in
set_option maxRecDepth 20000 in
theorem size_text (ao : Option Addr) (cap : Nat) (ps : List IPrt) (hn : ps.length ≤ 400) (ht : totP ps < 16777216) (a : Nat) (w : World) (ha : a < ps.length) (hp : IPrts w ao ps) (d : ByteArray) (hs : ps.getD a (false, 0, ⟨#[]⟩) = (false, 0, d)) (cs : List ByteArray) (ms : List (Nat × Nat))
    (h1 : foldS textC listC (ps.drop (a + 1)) = some cs) (h2 : foldS msT msL (ps.drop (a + 1)) = some ms) :
    Calls Try.prog 24 #[.slice ao ps.length cap, .int .i64 (a : Int)] w fun e w' => SzPost ps (textC d) (msT d) cs ms a w e w' := by
  have nI : (ps.length : Int) ≤ 400 := by omega
  have aI : (a : Int) < (ps.length : Int) := by omega
  have a0 : (0 : Int) ≤ (a : Int) := by omega
  have hd : d.size < 16777216 := by
    have hl := totP_le_drop ps a ht
    have e : ps.getD a (false, 0, ⟨#[]⟩) = ps[a] := by simp [List.getD_eq_getElem?_getD, ha]
    rw [drop_step ps a ha, ← e, hs, totP_cons] at hl
    simp only at hl
    omega
  have HF := hide (And.intro h1 h2)
  have HA := hide ha
  obtain ⟨b, off, rfl, p0, p1, p2⟩ := hp a ha
  rw [hs] at p0 p1 p2
  simp only at p0 p1 p2
  have HS := hide hd
  clear hp hs h1 h2 ha hd ht
  cases ho : ownC d with
  | true =>
    have HE : Hid ((textC d).size = 1) := by
      show _ = _
      simp [ownC] at ho
      simp [textC, ownC, ho]
    have h1 : d.size = 1 := by simp [ownC] at ho; exact ho.1
    have h0 : 0 < d.size := by omega
    have HB := hide (byteN_eq d 0 h0)
    have h2 : (d[0].toNat : Int) < 128 := by rw [HB.out]; simp [ownC] at ho; omega
    have e1 : ((d.size : Int) == 1) = true := by simp; omega
    have e0 : (0 : Int) < (d.size : Int) := by omega
    clear ho h1
    go_enter Try.func24, Try.ntmps24
    go_wp2
    go_ret3
    exact ⟨a + 1, by rw [HE.out]; rfl, by omega, by have := HA.out; omega, HF.out.1, HF.out.2, below_alloc _ _⟩
  | false =>
    have HE : Hid ((textC d).size = headN d.size) := by
      show _ = _
      simp only [textC, ho, Bool.false_eq_true, if_false]
      exact headS_headN 128 d HS.out
    have HH := hide (fun W => headed_any d.size W HS.out)
    by_cases h1 : d.size = 1
    · have h0 : 0 < d.size := by omega
      have HB := hide (byteN_eq d 0 h0)
      have h2 : (128 : Int) ≤ (d[0].toNat : Int) := by rw [HB.out]; simp [ownC, h1] at ho; omega
      have e1 : ((d.size : Int) == 1) = true := by simp; omega
      have e0 : (0 : Int) < (d.size : Int) := by omega
      clear ho h1
      go_enter Try.func24, Try.ntmps24
      go_wp2_with fail
      refine (HH.out _).mono ?_
      rintro e w1 ⟨rfl, rfl⟩
      go_wp2
      go_ret3
      exact ⟨a + 1, by rw [HE.out]; rfl, by omega, by have := HA.out; omega, HF.out.1, HF.out.2, below_alloc _ _⟩
    · have e1 : ((d.size : Int) == 1) = false := by simp; omega
      clear ho h1
      go_enter Try.func24, Try.ntmps24
      go_wp2_with fail
      refine (HH.out _).mono ?_
      rintro e w1 ⟨rfl, rfl⟩
      go_wp2
      go_ret3
      exact ⟨a + 1, by rw [HE.out]; rfl, by omega, by have := HA.out; omega, HF.out.1, HF.out.2, below_alloc _ _⟩

set_option maxHeartbeats 4000000 in
set_option maxRecDepth 20000 in
theorem size_list (ao : Option Addr) (cap : Nat) (ps : List IPrt) (hn : ps.length ≤ 400) (ht : totP ps < 16777216) (a : Nat) (w : World) (ha : a < ps.length) (hp : IPrts w ao ps) (C : Nat) (hs : ps.getD a (false, 0, ⟨#[]⟩) = (true, (C : Int), ⟨#[]⟩)) (st : List ByteArray) (mt : List (Nat × Nat))
    (h1 : foldS textC listC (ps.drop (a + 1)) = some st) (h2 : foldS msT msL (ps.drop (a + 1)) = some mt) (hC : C ≤ st.length)
    (ih : ∀ (a' : Nat) (W : World) (c : ByteArray) (m : Nat × Nat) (cs : List ByteArray) (ms : List (Nat × Nat)), a < a' → foldS textC listC (ps.drop a') = some (c :: cs) → foldS msT msL (ps.drop a') = some (m :: ms) → IPrts W ao ps → Calls Try.prog 24 #[.slice ao ps.length cap, .int .i64 (a' : Int)] W fun e w' => SzPost ps c m cs ms a' W e w') :
    Calls Try.prog 24 #[.slice ao ps.length cap, .int .i64 (a : Int)] w fun e w' => SzPost ps (listC (st.take C)) (msL (mt.take C)) (st.drop C) (mt.drop C) a w e w' := by
  have nI : (ps.length : Int) ≤ 400 := by omega
  have aI : (a : Int) < (ps.length : Int) := by omega
  have a0 : (0 : Int) ≤ (a : Int) := by omega
  have hml : mt.length = st.length := (fold_MC _ _ _ h2 h1).1
  have hst4 : st.length ≤ 400 := by have := foldS_len _ _ h1; rw [List.length_drop] at this; omega
  have htot : totS st < 16777216 := Nat.lt_of_le_of_lt (foldC_tot _ _ h1) (totP_le_drop ps (a + 1) ht)
  have hmb : ∀ q, maxM (mt.take q) ≤ 1000 := fun q => maxM_le _ _ (fun m hm => by
    have key : ∀ (qs : List IPrt) (s : List (Nat × Nat)), foldS msT msL qs = some s → ∀ m ∈ s, m.2 ≤ qs.length := by
      intro qs
      induction qs with
      | nil => intro s h; simp [foldS] at h; subst h; simp
      | cons p r ih2 =>
        intro s h
        cases s with
        | nil => intro m hm; simp at hm
        | cons x xs =>
          obtain ⟨s0, e0, _, _, ex, exs⟩ := foldS_cons h
          intro m hm
          rcases List.mem_cons.1 hm with rfl | hm
          · rw [ex]
            split
            · have := maxM_le (s0.take p.2.1.toNat) r.length (fun y hy => ih2 s0 e0 y (List.mem_of_mem_take hy))
              simp only [msL, List.length_cons]; omega
            · simp [msT]
          · rw [exs] at hm
            have := ih2 s0 e0 m (List.mem_of_mem_drop hm)
            simp only [List.length_cons]; omega
    have := key _ _ h2 m (List.mem_of_mem_take hm)
    rw [List.length_drop] at this
    omega)
  have HK := hide (And.intro hml (And.intro hst4 (And.intro htot (And.intro hC ha))))
  have HMB := hide hmb
  have HF := hide (And.intro h1 h2)
  have HP := hide hp
  have HIH := hide ih
  have htq : ∀ q, totS (st.take q) < 16777216 := fun q => by have := totS_split st q; omega
  have HTQ := hide htq
  obtain ⟨b, off, rfl, p0, p1, p2⟩ := hp a ha
  rw [hs] at p0 p1 p2
  simp only at p0 p1 p2
  have HP3 : Hid (P3 (w.alloc (.cells #[.bool true, .int .i64 (C : Int), .string ⟨#[]⟩] 24)) w.heap.size (true, (C : Int), ⟨#[]⟩)) := heap_alloc_new w _
  have HB0 : Hid (Below w.heap.size w (w.alloc (.cells #[.bool true, .int .i64 (C : Int), .string ⟨#[]⟩] 24))) := below_alloc w _
  have cI : (C : Int) ≤ 400 := by omega
  clear hp hs h1 h2 ha ht ih hml htot hmb htq hC hst4 hn
  go_enter Try.func24, Try.ntmps24
  go_wp2_with fail
  clear p0 p1 p2
  generalize World.alloc w _ = W0 at *
  go_loopw [1, 8, 9, 10] (fun av nv dv iv wr => ∃ q a' : Nat, q ≤ C ∧ a < a' ∧ a' ≤ ps.length ∧ av = .int .i64 (a' : Int) ∧ iv = .int .i64 (q : Int) ∧ nv = .int .i64 (totS (st.take q) : Int) ∧ dv = .int .i64 ((maxM (mt.take q) : Int) + 1) ∧ foldS textC listC (ps.drop a') = some (st.drop q) ∧ foldS msT msL (ps.drop a') = some (mt.drop q) ∧ Below w.heap.size w wr ∧ P3 wr w.heap.size (true, (C : Int), ⟨#[]⟩)) (fun _ _ _ iv _ => C - (intOf iv).toNat)
  case atStart => exact ⟨0, a + 1, Nat.zero_le _, by omega, by have := HK.out; omega, by congr 1, rfl, rfl, rfl, HF.out.1, HF.out.2, HB0.out, HP3.out⟩
  case round =>
    obtain ⟨q, a', hq, ha1, ha2, rfl, rfl, rfl, rfl, f1, f2, hbw, hp3⟩ := hrel
    obtain ⟨_, v1, _⟩ := hp3.get
    simp only at v1
    have HBW := hide hbw
    have HPw := hide hp3
    have t1 := HTQ.out q
    have t2 := HMB.out q
    clear hbw hp3
    by_cases hlt : q < C
    · have cl : (q : Int) < (C : Int) := by omega
      have hqs : q < st.length := by have := HK.out; omega
      have hqm : q < mt.length := by have := HK.out; omega
      rw [drop_cons st q hqs ⟨#[]⟩] at f1
      rw [drop_cons mt q hqm (0, 0)] at f2
      have HC := hide (HIH.out a' wr _ _ _ _ ha1 f1 f2 (HP.out.keep HBW.out (Nat.le_refl _)))
      have HS1 := hide (totS_snoc st q hqs)
      have HM1 := hide (maxM_snoc mt q hqm)
      have t3 := HTQ.out (q + 1)
      have t4 := HMB.out (q + 1)
      rw [HS1.out] at t3
      rw [HM1.out] at t4
      generalize st.getD q ⟨#[]⟩ = c at *
      generalize mt.getD q (0, 0) = m at *
      obtain ⟨mx, my⟩ := m
      simp only at HM1 t4
      generalize totS (st.take q) = S at *
      generalize maxM (mt.take q) = D at *
      have aI2 : (a' : Int) ≤ 400 := by omega
      clear f1 f2
      go_wp2_with fail
      refine HC.out.mono ?_
      rintro e w2 ⟨a2, rfl, h3, h4, f3, f4, hb2⟩
      have HB2 : Hid (Below w.heap.size w w2) := HBW.out.trans (hb2.mono HBW.out.size)
      have HP2 : Hid (P3 w2 w.heap.size (true, (C : Int), ⟨#[]⟩)) := HPw.out.keep (hb2.block _ (Array.getElem?_eq_some_iff.1 HPw.out).1)
      have HFF := hide (And.intro f3 f4)
      clear hb2 f3 f4
      by_cases hdy : D < my
      · have e1 : max D my = my := by omega
        rw [e1] at HM1
        have d1 : (D : Int) + 1 < (my : Int) + 1 := by omega
        go_wp2
        go_roundw
        case rel => exact ⟨q + 1, a2, by omega, by omega, h4, rfl, by go_num, by rw [HS1.out]; go_num, by rw [HM1.out], HFF.out.1, HFF.out.2, HB2.out, HP2.out⟩
        case measure => simp [intOf]; omega
      · have e1 : max D my = D := by omega
        rw [e1] at HM1
        have d1 : (my : Int) + 1 ≤ (D : Int) + 1 := by omega
        go_wp2
        go_roundw
        case rel => exact ⟨q + 1, a2, by omega, by omega, h4, rfl, by go_num, by rw [HS1.out]; go_num, by rw [HM1.out], HFF.out.1, HFF.out.2, HB2.out, HP2.out⟩
        case measure => simp [intOf]; omega
    · obtain rfl : q = C := by omega
      have HE : Hid ((listC (st.take q)).size = headN (totS (st.take q)) ∧ (msL (mt.take q)).2 = maxM (mt.take q) + 1) := by
        refine ⟨?_, rfl⟩
        unfold listC
        rw [headS_headN 192 _ (by rw [joinB_size]; exact t1), joinB_size]
      have HH := hide (fun W => headed_any (totS (st.take q)) W t1)
      have HFF := hide (And.intro f1 f2)
      have HA2 := hide (And.intro ha1 ha2)
      clear f1 f2
      generalize maxM (mt.take q) = D at *
      generalize totS (st.take q) = S at *
      go_wp2_with fail
      refine (HH.out _).mono ?_
      rintro e w2 ⟨rfl, rfl⟩
      go_wp2
      go_ret3
      exact ⟨a', by rw [HE.out.1, HE.out.2]; rfl, HA2.out.1, HA2.out.2, HFF.out.1, HFF.out.2, HBW.out⟩

theorem size_any (ao : Option Addr) (cap : Nat) (ps : List IPrt) (hn : ps.length ≤ 400) (ht : totP ps < 16777216) : ∀ (d a : Nat) (w : World) (c : ByteArray) (m : Nat × Nat) (cs : List ByteArray) (ms : List (Nat × Nat)), ps.length - a ≤ d → foldS textC listC (ps.drop a) = some (c :: cs) → foldS msT msL (ps.drop a) = some (m :: ms) → IPrts w ao ps → Calls Try.prog 24 #[.slice ao ps.length cap, .int .i64 (a : Int)] w fun e w' => SzPost ps c m cs ms a w e w'
  | 0, a, w, c, m, cs, ms, hd, h1, _, _ => by
    rw [List.drop_eq_nil_of_le (by omega)] at h1
    simp [foldS] at h1
  | d + 1, a, w, c, m, cs, ms, hd, h1, h2, hp => by
    by_cases ha : a < ps.length
    · have e : ps.getD a (false, 0, ⟨#[]⟩) = ps[a] := by simp [List.getD_eq_getElem?_getD, ha]
      rw [drop_step ps a ha, ← e] at h1 h2
      obtain ⟨st, f1, hs, hc, rfl, rfl⟩ := foldS_cons h1
      obtain ⟨mt, f2, _, hc2, rfl, rfl⟩ := foldS_cons h2
      rcases hpd : ps.getD a (false, 0, ⟨#[]⟩) with ⟨l, n, dd⟩
      rw [hpd] at hs hc
      simp only at hc
      cases l with
      | false =>
        obtain rfl : n = 0 := by simpa [sndP] using hs
        simpa using size_text ao cap ps hn ht a w ha hp dd hpd st mt f1 f2
      | true =>
        have h3 : 0 ≤ n ∧ dd.size = 0 := by simpa [sndP] using hs
        obtain rfl := empty_of_size h3.2
        obtain ⟨C, rfl⟩ : ∃ C : Nat, n = (C : Int) := ⟨n.toNat, by omega⟩
        have := size_list ao cap ps hn ht a w ha hp C hpd st mt f1 f2 (by omega) (fun a' W c m cs ms h4 h5 h6 h7 => size_any ao cap ps hn ht d a' W c m cs ms (by omega) h5 h6 h7)
        simpa using this
    · rw [List.drop_eq_nil_of_le (by omega)] at h1
      simp [foldS] at h1
end Go.Proofs.Ytoafiieciiijbaa
