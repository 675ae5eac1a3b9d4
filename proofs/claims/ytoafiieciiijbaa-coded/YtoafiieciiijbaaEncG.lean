/-
  OUR OWN: codes: the program's Encode.
-/
import Derived.Test.YtoafiieciiijbaaEncFp
namespace Go.Proofs.Ytoafiieciiijbaa
open Go.RowKit
attribute [local go_sem ↓] Go.wp_at_zero Go.wp_at_succ

/-- what Encode answers -/
def encP (ps : List IPrt) : ByteArray × Int :=
  if 400 < ps.length then (⟨#[]⟩, 1)
  else if (foldO (0, 0) (foldS msT msL ps)).2 = false then (⟨#[]⟩, 2)
  else if 8 < (foldO (0, 0) (foldS msT msL ps)).1.2 then (⟨#[]⟩, 6)
  else if 6000 < (foldO (0, 0) (foldS msT msL ps)).1.1 then (⟨#[]⟩, 1)
  else ((foldO ⟨#[]⟩ (foldS textC listC ps)).1, 0)
theorem foldO_not {T : Type} {z : T} {o : Option (List T)} (h : ∀ x, o ≠ some [x]) : (foldO z o).2 = false := by
  match o, h with
  | none, _ => rfl
  | some [], _ => rfl
  | some [x], h => exact absurd rfl (h x)
  | some (_ :: _ :: _), _ => rfl
theorem encP_item {ps : List IPrt} (hn : ps.length ≤ 400) (h : ∀ x, foldS msT msL ps ≠ some [x]) : encP ps = (⟨#[]⟩, 2) := by
  unfold encP
  rw [if_neg (by omega), if_pos (foldO_not h)]
theorem encP_ok {ps : List IPrt} (hn : ps.length ≤ 400) {m : Nat × Nat} {c : ByteArray} (h1 : foldS msT msL ps = some [m]) (h2 : foldS textC listC ps = some [c]) : encP ps = if 8 < m.2 then (⟨#[]⟩, 6) else if 6000 < c.size then (⟨#[]⟩, 1) else (c, 0) := by
  have hmc : MC m c := (fold_MC ps [m] [c] h1 h2).2 0 m c rfl rfl
  unfold encP
  have e1 : foldO (0, 0) (some [m]) = (m, true) := rfl
  have e2 : foldO ⟨#[]⟩ (some [c]) = (c, true) := rfl
  rw [if_neg (by omega), h1, h2, e1, e2]
  unfold MC at hmc
  rw [if_neg (show ¬ ((m, true).2 = false) from by simp)]
  show (if 8 < m.2 then _ else if 6000 < m.1 then _ else (c, (0 : Int))) = _
  by_cases h3 : 8 < m.2
  · rw [if_pos h3, if_pos h3]
  · rw [if_neg h3, if_neg h3]
    by_cases h4 : 6000 < c.size
    · rw [if_pos (by omega), if_pos h4]
    · rw [if_neg (by omega), if_neg h4]

theorem foldM_bounds (ps : List IPrt) (hn : ps.length ≤ 400) : (foldO (0, 0) (foldS msT msL ps)).1.1 ≤ 6001 ∧ (foldO (0, 0) (foldS msT msL ps)).1.2 ≤ 1000 := by
  have key : ∀ (qs : List IPrt) (st : List (Nat × Nat)), foldS msT msL qs = some st → ∀ m ∈ st, m.1 ≤ 6001 ∧ m.2 ≤ qs.length := by
    intro qs
    induction qs with
    | nil => intro st h; simp [foldS] at h; subst h; simp
    | cons p r ih =>
      intro st h
      unfold foldS at h
      split at h
      · cases h
      · rename_i s0 h0
        split at h
        · simp only [Option.some.injEq] at h
          subst h
          intro m hm
          rcases List.mem_cons.1 hm with rfl | hm
          · split
            · refine ⟨msL_size _, ?_⟩
              have := maxM_le (s0.take p.2.1.toNat) r.length (fun x hx => (ih s0 h0 x (List.mem_of_mem_take hx)).2)
              simp only [msL, List.length_cons]; omega
            · exact ⟨msT_size _, by simp [msT]⟩
          · have := ih s0 h0 m (List.mem_of_mem_drop hm)
            exact ⟨this.1, by simp only [List.length_cons]; omega⟩
        · cases h
  cases hf : foldS msT msL ps with
  | none => simp [foldO]
  | some st =>
    match st, hf with
    | [], _ => simp [foldO]
    | [x], hf =>
      have := key ps [x] hf x (by simp)
      exact ⟨this.1, by have := this.2; show x.2 ≤ 1000; omega⟩
    | x :: y :: r, _ => simp [foldO]

theorem fold_okS {ps : List IPrt} (h1 : (foldO (0, 0) (foldS msT msL ps)).2 = true) (h2 : (foldO (0, 0) (foldS msT msL ps)).1.1 ≤ 6000) : ∀ i st, foldS textC listC (ps.drop i) = some st → totS st < 16777216 := by
  intro i st hst
  match hf : foldS msT msL ps with
  | none => rw [hf] at h1; cases h1
  | some [] => rw [hf] at h1; cases h1
  | some [m] => rw [hf] at h2; exact fold_short hf h2 i st hst
  | some (_ :: _ :: _) => rw [hf] at h1; cases h1

set_option maxHeartbeats 2000000 in
set_option maxRecDepth 20000 in
theorem iEncode_any (ao : Option Addr) (cap : Nat) (ps : List IPrt) (w : World) (hm : ps.length ≤ 9223372036854775807) (hp : IPrts w ao ps) (hsz : ∀ p ∈ ps, p.2.2.size ≤ 281474976710656) :
    Calls Try.prog 26 #[.slice ao ps.length cap] w fun e w' => e = .returned (.tuple #[.string (encP ps).1, .int .i64 (encP ps).2]) ∧ Below w.heap.size w w' := by
  by_cases h1 : 400 < ps.length
  · have HE : Hid (encP ps = (⟨#[]⟩, 1)) := by show _ = _; unfold encP; rw [if_pos h1]
    have c1 : (400 : Int) < (ps.length : Int) := by omega
    go_enter Try.func26, Try.ntmps26
    go_wp2
    go_ret2
    exact ⟨by rw [HE.out]; rfl, Below.refl _ _⟩
  · have c1 : (ps.length : Int) ≤ 400 := by omega
    have HM := hide (foldM_any ao cap ps w (by omega) hp hsz)
    have HC : Hid ((foldO (0, 0) (foldS msT msL ps)).2 = true → (foldO (0, 0) (foldS msT msL ps)).1.1 ≤ 6000 → ∀ W, Below w.heap.size w W → Calls Try.prog 44 #[.slice ao ps.length cap, .func (.func 45) #[] #[], .func (.func 46) #[] #[]] W fun e w' => e = .returned (.tuple #[.string (foldO ⟨#[]⟩ (foldS textC listC ps)).1, .bool (foldO ⟨#[]⟩ (foldS textC listC ps)).2]) ∧ Below W.heap.size W w') :=
      fun hok hmx W hW => foldC_any ao cap ps W (by omega) (hp.keep hW (Nat.le_refl _)) (fold_okS hok hmx)
    have HE : Hid (encP ps = if (foldO (0, 0) (foldS msT msL ps)).2 = false then (⟨#[]⟩, 2)
      else if 8 < (foldO (0, 0) (foldS msT msL ps)).1.2 then (⟨#[]⟩, 6)
      else if 6000 < (foldO (0, 0) (foldS msT msL ps)).1.1 then (⟨#[]⟩, 1)
      else ((foldO ⟨#[]⟩ (foldS textC listC ps)).1, 0)) := by show _ = _; unfold encP; rw [if_neg h1]
    obtain ⟨q1, q2⟩ := foldM_bounds ps (by omega)
    generalize foldO (0, 0) (foldS msT msL ps) = X at *
    generalize foldO ⟨#[]⟩ (foldS textC listC ps) = Y at *
    obtain ⟨⟨sz, dp⟩, ok⟩ := X
    obtain ⟨cd, ok2⟩ := Y
    simp only at q1 q2 HE
    clear hp hsz h1
    unfold msV at HM
    cases ok with
    | false =>
      rw [if_pos rfl] at HE
      go_enter Try.func26, Try.ntmps26
      go_wp2_with fail
      refine HM.out.mono ?_
      rintro e w1 ⟨rfl, hb⟩
      go_wp2
      go_ret2
      exact ⟨by rw [HE.out]; rfl, hb.alloc hb.size _⟩
    | true =>
      rw [if_neg (by simp)] at HE
      by_cases h2 : 8 < dp
      · rw [if_pos h2] at HE
        have c2 : (8 : Int) < (dp : Int) := by omega
        go_enter Try.func26, Try.ntmps26
        go_wp2_with fail
        refine HM.out.mono ?_
        rintro e w1 ⟨rfl, hb⟩
        go_wp2
        go_ret2
        exact ⟨by rw [HE.out]; rfl, hb.alloc hb.size _⟩
      · rw [if_neg h2] at HE
        have c2 : (dp : Int) ≤ 8 := by omega
        by_cases h3 : 6000 < sz
        · rw [if_pos h3] at HE
          have c3 : (6000 : Int) < (sz : Int) := by omega
          go_enter Try.func26, Try.ntmps26
          go_wp2_with fail
          refine HM.out.mono ?_
          rintro e w1 ⟨rfl, hb⟩
          go_wp2
          go_ret2
          exact ⟨by rw [HE.out]; rfl, hb.alloc hb.size _⟩
        · rw [if_neg h3] at HE
          have c3 : (sz : Int) ≤ 6000 := by omega
          go_enter Try.func26, Try.ntmps26
          go_wp2_with fail
          refine HM.out.mono ?_
          rintro e w1 ⟨rfl, hb⟩
          have HB1 := hide hb
          clear hb
          go_wp2_with fail
          refine (HC.out (by first | trivial | rfl) (by first | omega | (simp only; omega)) _ (HB1.out.alloc HB1.out.size _)).mono ?_
          rintro e w2 ⟨rfl, hb2⟩
          go_wp2
          go_ret2
          exact ⟨by rw [HE.out]; rfl, (HB1.out.alloc HB1.out.size _).trans (hb2.mono (by have := HB1.out.size; simp; omega))⟩

set_option maxHeartbeats 1000000 in
theorem cEncode_any (ao : Option Addr) (cap : Nat) (ps : List IPrt) (w : World) (hm : ps.length ≤ 9223372036854775807) (hp : IPrts w ao ps) (hsz : ∀ p ∈ ps, p.2.2.size ≤ 281474976710656) :
    Calls Try.prog 8 #[.slice ao ps.length cap] w fun e w' => e = .returned (.tuple #[.string (encP ps).1, .int .i64 (encP ps).2]) ∧ Below w.heap.size w w' := by
  have HI := hide (iEncode_any ao cap ps w hm hp hsz)
  clear hp hsz hm
  generalize encP ps = X at *
  go_enter Try.func8, Try.ntmps8
  go_wp2_with fail
  refine HI.out.mono ?_
  rintro e w1 ⟨rfl, hb⟩
  go_wp2
  go_ret2
  exact ⟨rfl, hb⟩
end Go.Proofs.Ytoafiieciiijbaa
