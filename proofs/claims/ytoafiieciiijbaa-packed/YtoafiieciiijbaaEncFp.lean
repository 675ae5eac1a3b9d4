/-
  OUR OWN: codes: laws on folds of parts; measures and codes.
-/
import Derived.Test.YtoafiieciiijbaaEncF
import Derived.Test.YtoafiieciiijbaaItemD
namespace Go.Proofs.Ytoafiieciiijbaa
open Go.RowKit

/-- as foldS, over a stack that is there -/
def foldT {T : Type} (txt : ByteArray → T) (lst : List T → T) : List IPrt → List T → Option (List T)
  | [], st => some st
  | p :: r, st => match foldT txt lst r st with
    | none => none
    | some s1 => if sndP p = true ∧ p.2.1 ≤ (s1.length : Int) then some ((if p.1 = true then lst (s1.take p.2.1.toNat) else txt p.2.2) :: s1.drop p.2.1.toNat) else none
theorem foldT_nil {T : Type} (txt : ByteArray → T) (lst : List T → T) (ps : List IPrt) : foldT txt lst ps [] = foldS txt lst ps := by
  induction ps with
  | nil => rfl
  | cons p r ih =>
    unfold foldT foldS; rw [ih]
    cases foldS txt lst r <;> rfl
theorem foldT_append {T : Type} (txt : ByteArray → T) (lst : List T → T) (a b : List IPrt) (st : List T) : foldT txt lst (a ++ b) st = (foldT txt lst b st).bind (foldT txt lst a) := by
  induction a with
  | nil => simp only [List.nil_append]; cases foldT txt lst b st <;> rfl
  | cons p r ih =>
    rw [List.cons_append]
    cases hb : foldT txt lst b st with
    | none =>
      rw [hb] at ih
      have ih2 : foldT txt lst (r ++ b) st = none := ih
      unfold foldT; rw [ih2]; rfl
    | some s1 =>
      rw [hb] at ih
      have ih2 : foldT txt lst (r ++ b) st = foldT txt lst r s1 := ih
      show foldT txt lst (p :: (r ++ b)) st = foldT txt lst (p :: r) s1
      unfold foldT; rw [ih2]
def toI (p : Prt) : IPrt := (p.1, (p.2.1 : Int), p.2.2)
/-- one item, and what it comes to -/
def Vl {T : Type} (txt : ByteArray → T) (lst : List T → T) (qs : List Prt) (x : T) : Prop := ∀ st, foldT txt lst (qs.map toI) st = some (x :: st)
theorem Vl.text {T : Type} (txt : ByteArray → T) (lst : List T → T) (b : ByteArray) : Vl txt lst [(false, 0, b)] (txt b) := by
  intro st
  simp [foldT, toI, sndP]
theorem Vl.flat {T : Type} (txt : ByteArray → T) (lst : List T → T) : ∀ (pss : List (List Prt)) (xs : List T), pss.length = xs.length → (∀ (i : Nat) q x, pss[i]? = some q → xs[i]? = some x → Vl txt lst q x) → ∀ st, foldT txt lst (pss.flatten.map toI) st = some (xs ++ st)
  | [], [], _, _, st => rfl
  | q :: r, x :: xr, hl, h, st => by
    have ih := Vl.flat txt lst r xr (by simpa using hl) (fun i q' x' h1 h2 => h (i + 1) q' x' (by simpa using h1) (by simpa using h2)) st
    rw [List.flatten_cons, List.map_append, foldT_append, ih]
    exact h 0 q x rfl rfl (xr ++ st)
  | [], _ :: _, hl, _, _ => by simp at hl
  | _ :: _, [], hl, _, _ => by simp at hl
theorem Vl.list {T : Type} (txt : ByteArray → T) (lst : List T → T) (pss : List (List Prt)) (xs : List T) (hl : pss.length = xs.length) (h : ∀ (i : Nat) q x, pss[i]? = some q → xs[i]? = some x → Vl txt lst q x) : Vl txt lst ((true, pss.length, ⟨#[]⟩) :: pss.flatten) (lst xs) := by
  intro st
  have hf := Vl.flat txt lst pss xs hl h st
  rw [List.map_cons]
  unfold foldT
  rw [hf]
  have hs : sndP (toI (true, pss.length, ⟨#[]⟩)) = true := by simp [sndP, toI, ByteArray.size]
  have hc : (toI (true, pss.length, ⟨#[]⟩)).2.1 = (pss.length : Int) := rfl
  simp only [hs, hc, List.length_append]
  rw [if_pos ⟨trivial, by omega⟩]
  simp [toI, hl]
theorem Vl.one {T : Type} {txt : ByteArray → T} {lst : List T → T} {qs : List Prt} {x : T} (h : Vl txt lst qs x) (tl : List IPrt) : foldS txt lst (qs.map toI ++ tl) = (foldS txt lst tl).map (x :: ·) := by
  rw [← foldT_nil, foldT_append, foldT_nil]
  cases foldS txt lst tl with
  | none => rfl
  | some st => exact h st
theorem foldS_empty {T : Type} {txt : ByteArray → T} {lst : List T → T} {ps : List IPrt} (h : foldS txt lst ps = some []) : ps = [] := by
  cases ps with
  | nil => rfl
  | cons p r =>
    unfold foldS at h
    split at h
    · cases h
    · split at h
      · simp at h
      · cases h

/-- no item stands ahead -/
def NoIt (ps : List IPrt) : Prop := ∀ {T : Type} (txt : ByteArray → T) (lst : List T → T) (x : T) (st : List T), foldS txt lst ps ≠ some (x :: st)
theorem NoIt.nil : NoIt [] := fun txt lst x st h => by simp [foldS] at h
theorem NoIt.bad {p : IPrt} {r : List IPrt} (h : sndP p = false) : NoIt (p :: r) := fun txt lst x st h2 => by
  unfold foldS at h2
  split at h2
  · cases h2
  · rw [if_neg (by rw [h]; simp)] at h2; cases h2
theorem NoIt.short {p : IPrt} {pss : List (List Prt)} {tl : List IPrt} (hv : ∀ {T : Type} (txt : ByteArray → T) (lst : List T → T), ∃ xs : List T, pss.length = xs.length ∧ ∀ (i : Nat) q x, pss[i]? = some q → xs[i]? = some x → Vl txt lst q x)
    (ht : NoIt tl) (hc : (pss.length : Int) < p.2.1) : NoIt (p :: (pss.flatten.map toI ++ tl)) := fun txt lst x st h2 => by
  obtain ⟨xs, hl, hx⟩ := hv txt lst
  have e : foldS txt lst (pss.flatten.map toI ++ tl) = (foldS txt lst tl).bind (fun s => some (xs ++ s)) := by
    rw [← foldT_nil, foldT_append, foldT_nil]
    cases foldS txt lst tl with
    | none => rfl
    | some s => exact Vl.flat txt lst pss xs hl hx s
  unfold foldS at h2
  cases hs : foldS txt lst tl with
  | none => rw [hs] at e; rw [e] at h2; cases h2
  | some s =>
    cases s with
    | cons y r => exact ht txt lst y r hs
    | nil =>
      rw [hs] at e
      rw [e] at h2
      simp only [Option.bind_some, List.append_nil] at h2
      rw [if_neg (by rintro ⟨_, h3⟩; omega)] at h2
      cases h2

/-- measures are sizes, up to one too many -/
theorem hdr_len (mark n : Nat) : (hdr mark n).length = if n ≤ 55 then 1 else 1 + cntB n := by
  unfold hdr; split
  · rfl
  · simp [lenS_length]; omega
theorem headS_sz (mark : Nat) (s : ByteArray) : min (headS mark s).size 6001 = codeSz s.size := by
  unfold headS
  rw [ByteArray.size_append, strOfNums_size, hdr_len]
  unfold codeSz
  by_cases h1 : 6000 < s.size
  · rw [if_pos h1, if_neg (by omega)]; omega
  · rw [if_neg h1]
    by_cases h2 : s.size ≤ 55
    · rw [if_pos h2, if_pos h2]; omega
    · rw [if_neg h2, if_neg h2]
theorem codeSz_cap (a b : Nat) (h : min a 6001 = min b 6001) : codeSz a = codeSz b := by
  by_cases h1 : 6000 < a
  · have h2 : 6000 < b := by omega
    unfold codeSz; rw [if_pos h1, if_pos h2]
  · have : a = b := by omega
    rw [this]
/-- a measure and a code that belong together -/
def MC (m : Nat × Nat) (c : ByteArray) : Prop := m.1 = min c.size 6001
theorem MC.text (b : ByteArray) : MC (msT b) (textC b) := by
  unfold MC msT textC
  cases ho : ownC b with
  | true =>
    have : b.size = 1 := by simp [ownC] at ho; exact ho.1
    simp [this]
  | false =>
    have := headS_sz 128 b
    simp only [Bool.false_eq_true, if_false]
    omega
theorem MC.sum : ∀ (ms : List (Nat × Nat)) (cs : List ByteArray), ms.length = cs.length → (∀ (i : Nat) m c, ms[i]? = some m → cs[i]? = some c → MC m c) → min (sumM ms) 6001 = min (totS cs) 6001
  | [], [], _, _ => rfl
  | m :: mr, c :: cr, hl, h => by
    have ih := MC.sum mr cr (by simpa using hl) (fun i m' c' h1 h2 => h (i + 1) m' c' (by simpa using h1) (by simpa using h2))
    have h0 : m.1 = min c.size 6001 := h 0 m c rfl rfl
    have e1 : sumM (m :: mr) = m.1 + sumM mr := by simp [sumM]
    rw [e1, totS_cons]
    omega
  | [], _ :: _, hl, _ => by simp at hl
  | _ :: _, [], hl, _ => by simp at hl
theorem MC.list (ms : List (Nat × Nat)) (cs : List ByteArray) (hl : ms.length = cs.length) (h : ∀ (i : Nat) m c, ms[i]? = some m → cs[i]? = some c → MC m c) : MC (msL ms) (listC cs) := by
  unfold MC msL listC
  have h1 := headS_sz 192 (joinB cs)
  rw [joinB_size] at h1
  rw [h1]
  exact codeSz_cap _ _ (MC.sum ms cs hl h)
theorem fold_MC : ∀ (ps : List IPrt) (ms : List (Nat × Nat)) (cs : List ByteArray), foldS msT msL ps = some ms → foldS textC listC ps = some cs → ms.length = cs.length ∧ ∀ (i : Nat) m c, ms[i]? = some m → cs[i]? = some c → MC m c
  | [], ms, cs, h1, h2 => by
    simp [foldS] at h1 h2
    subst h1; subst h2
    exact ⟨rfl, fun i m c h => by simp at h⟩
  | p :: r, ms, cs, h1, h2 => by
    unfold foldS at h1 h2
    split at h1
    · cases h1
    · rename_i m0 hm0
      split at h2
      · cases h2
      · rename_i c0 hc0
        obtain ⟨hl, hx⟩ := fold_MC r m0 c0 hm0 hc0
        split at h1
        · rename_i hb
          rw [if_pos (by rw [← hl]; exact hb)] at h2
          simp only [Option.some.injEq] at h1 h2
          subst h1; subst h2
          refine ⟨by simp [hl], fun i m c hm hc => ?_⟩
          cases i with
          | zero =>
            simp only [List.getElem?_cons_zero, Option.some.injEq] at hm hc
            subst hm; subst hc
            split
            · refine MC.list _ _ (by simp [hl]) (fun i m c hm hc => ?_)
              rw [List.getElem?_take] at hm hc
              split at hm
              · rename_i hi
                rw [if_pos hi] at hc
                exact hx i m c hm hc
              · cases hm
            · exact MC.text _
          | succ i =>
            simp only [List.getElem?_cons_succ, List.getElem?_drop] at hm hc
            exact hx _ m c hm hc
        · cases h1
theorem foldC_tot : ∀ (ps : List IPrt) (cs : List ByteArray), foldS textC listC ps = some cs → totS cs ≤ totP ps
  | [], cs, h => by simp [foldS] at h; subst h; simp [totS, totP]
  | p :: r, cs, h => by
    unfold foldS at h
    split at h
    · cases h
    · rename_i c0 hc0
      have ih := foldC_tot r c0 hc0
      split at h
      · simp only [Option.some.injEq] at h
        subst h
        rw [totS_cons, totP_cons]
        have hsp := totS_split c0 p.2.1.toNat
        split
        · have := listC_size (c0.take p.2.1.toNat); omega
        · have := textC_size p.2.2; omega
      · cases h
theorem vals {T : Type} (txt : ByteArray → T) (lst : List T → T) (pss : List (List Prt)) (h : ∀ i, i < pss.length → ∃ x : T, Vl txt lst (pss.getD i []) x) : ∃ xs : List T, pss.length = xs.length ∧ ∀ (i : Nat) q x, pss[i]? = some q → xs[i]? = some x → Vl txt lst q x := by
  have hx : ∀ i, ∃ x : T, i < pss.length → Vl txt lst (pss.getD i []) x := by
    intro i
    by_cases hlt : i < pss.length
    · obtain ⟨x, hx⟩ := h i hlt
      exact ⟨x, fun _ => hx⟩
    · exact ⟨txt ⟨#[]⟩, fun h => absurd h hlt⟩
  refine ⟨(List.range pss.length).map (fun i => Classical.choose (hx i)), by simp, fun i q x h1 h2 => ?_⟩
  have hil : i < pss.length := (List.getElem?_eq_some_iff.1 h1).1
  have e : pss.getD i [] = q := by simp [List.getD_eq_getElem?_getD, h1]
  have hc := Classical.choose_spec (hx i) hil
  have e2 : x = Classical.choose (hx i) := by
    rw [List.getElem?_map, List.getElem?_range hil] at h2
    simpa using h2.symm
  rw [e2, ← e]; exact hc
/-- a stack grows -/
theorem fold_grows {p : IPrt} {r : List IPrt} {cs : List ByteArray} (h : foldS textC listC (p :: r) = some cs) : ∃ st, foldS textC listC r = some st ∧ totS st ≤ totS cs := by
  unfold foldS at h
  split at h
  · cases h
  · rename_i st hst
    refine ⟨st, hst, ?_⟩
    split at h
    · simp only [Option.some.injEq] at h
      rw [← h, totS_cons]
      have := totS_split st p.2.1.toNat
      split
      · have h1 : totS (st.take p.2.1.toNat) ≤ (listC (st.take p.2.1.toNat)).size := by
          unfold listC headS; rw [ByteArray.size_append, joinB_size]; omega
        omega
      · rename_i hb hl
        have h0 : p.2.1 = 0 := by
          have := hb.1
          simpa [sndP, hl] using this
        rw [h0] at this ⊢
        simp only [Int.toNat_zero, List.drop_zero] at this ⊢
        omega
    · cases h
theorem fold_grow : ∀ (ps : List IPrt) (i : Nat) (cs : List ByteArray) (st : List ByteArray), foldS textC listC ps = some cs → foldS textC listC (ps.drop i) = some st → totS st ≤ totS cs
  | ps, 0, cs, st, h, h2 => by
    rw [List.drop_zero, h] at h2
    injection h2 with h2
    rw [h2]; exact Nat.le_refl _
  | [], i + 1, cs, st, h, h2 => by
    rw [List.drop_nil, h] at h2
    injection h2 with h2
    rw [h2]; exact Nat.le_refl _
  | p :: r, i + 1, cs, st, h, h2 => by
    obtain ⟨s1, h3, h4⟩ := fold_grows h
    have := fold_grow r i s1 st h3 (by simpa using h2)
    omega
theorem fold_both : ∀ (ps : List IPrt) (ms : List (Nat × Nat)), foldS msT msL ps = some ms → ∃ cs, foldS textC listC ps = some cs ∧ cs.length = ms.length
  | [], ms, h => by simp [foldS] at h; subst h; exact ⟨[], rfl, rfl⟩
  | p :: r, ms, h => by
    unfold foldS at h
    split at h
    · cases h
    · rename_i m0 hm0
      obtain ⟨c0, hc0, hl⟩ := fold_both r m0 hm0
      split at h
      · rename_i hb
        simp only [Option.some.injEq] at h
        refine ⟨_, by unfold foldS; rw [hc0]; exact if_pos ⟨hb.1, by rw [hl]; exact hb.2⟩, ?_⟩
        rw [← h]; simp [hl]
      · cases h
/-- short codes stand on short stacks -/
theorem fold_short {ps : List IPrt} {m : Nat × Nat} (h : foldS msT msL ps = some [m]) (hm : m.1 ≤ 6000) (i : Nat) (st : List ByteArray) (h2 : foldS textC listC (ps.drop i) = some st) : totS st < 16777216 := by
  obtain ⟨cs, hc, hl⟩ := fold_both ps [m] h
  obtain ⟨c, rfl⟩ := List.length_eq_one_iff.1 hl
  have hmc : MC m c := (fold_MC ps _ _ h hc).2 0 m c rfl rfl
  have h3 := fold_grow ps i [c] st hc h2
  have h4 : totS [c] = c.size := by simp [totS]
  unfold MC at hmc
  omega
end Go.Proofs.Ytoafiieciiijbaa
