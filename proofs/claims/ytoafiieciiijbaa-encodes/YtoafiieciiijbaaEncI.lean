/-
  OUR OWN: codes: the reference's ahead, depth, Code.
-/
import Derived.Test.YtoafiieciiijbaaEncH
namespace Go.Proofs.Ytoafiieciiijbaa
open Go.RowKit
attribute [local go_sem ↓] Go.wp_at_zero Go.wp_at_succ

theorem cntB_pow (n j : Nat) (hn : n < 72057594037927936) : j < cntB n ↔ 256 ^ j ≤ n := by
  rw [cntB_lt n j hn]
  have hp : 0 < 256 ^ j := Nat.pow_pos (by decide)
  constructor
  · intro h
    exact (Nat.one_le_div_iff hp).1 h
  · intro h
    exact (Nat.one_le_div_iff hp).2 h
theorem leN_getD : ∀ (k n j : Nat), j < k → (leN k n).getD j 0 = ((n / 256 ^ j % 256 : Nat) : Int)
  | k + 1, n, 0, _ => by simp [leN]
  | k + 1, n, j + 1, h => by
    have := leN_getD k (n / 256) j (by omega)
    simp only [leN, List.getD_cons_succ, this, Nat.div_div_eq_div_mul, Nat.pow_succ]
    rw [Nat.mul_comm 256]
theorem lenS_getD (n t : Nat) (h : t < cntB n) : (lenS n).getD t 0 = ((n / 256 ^ (cntB n - 1 - t) % 256 : Nat) : Int) := by
  unfold lenS
  have hl := leN_length (cntB n) n
  rw [List.getD_eq_getElem?_getD, List.getElem?_reverse (by omega), hl, ← List.getD_eq_getElem?_getD]
  exact leN_getD _ _ _ (by omega)
theorem take_snocD (l : List Int) (k : Nat) (h : k < l.length) : (l.take (k + 1)).map (Value.int .u8) = (l.take k).map (Value.int .u8) ++ [.int .u8 (l.getD k 0)] := by
  have e : l.getD k 0 = l[k] := by simp [List.getD_eq_getElem?_getD, h]
  rw [e, List.take_succ_eq_append_getElem h, List.map_append]; rfl

set_option maxHeartbeats 1000000 in
set_option maxRecDepth 20000 in
theorem ahead_any (mark n : Nat) (w : World) (hm : mark ≤ 192) (hn : n < 72057594037927936) :
    Calls Try.prog 47 #[.int .i64 (mark : Int), .int .i64 (n : Int)] w fun e w' => e = .returned (.string (strOfNums (hdr mark n))) ∧ Below w.heap.size w w' := by
  obtain ⟨i0, hi, hz0, hz1, hz2⟩ := info_parts info5
  by_cases h2 : n ≤ 55
  · have c2 : (n : Int) ≤ 55 := by omega
    have c3 : (mark : Int) ≤ 192 := by omega
    have hcv := conv_new w ((mark : Int) + (n : Int))
    have HE : Hid (hdr mark n = [(mark : Int) + (n : Int)]) := by show _ = _; unfold hdr; rw [if_pos h2]; simp
    go_enter Try.func47, Try.ntmps47
    go_wp2
    go_ret
    exact ⟨by rw [HE.out]; rfl, below_alloc _ _⟩
  · have c2 : 55 < (n : Int) := by omega
    have c3 : (mark : Int) ≤ 192 := by omega
    have HE : Hid (hdr mark n = ((mark : Int) + 55 + (cntB n : Int)) :: lenS n) := by show _ = _; unfold hdr; rw [if_neg h2]; simp
    have hK := cntB_le7 n
    have HN := hide hn
    have hL := lenS_length n
    go_enter Try.func47, Try.ntmps47
    go_wp2
    go_loop [6, 7] (fun bv kv => ∃ j : Nat, j ≤ cntB n ∧ bv = .int .i64 ((256 ^ j : Nat) : Int) ∧ kv = .int .i64 (j : Int)) (fun _ kv => cntB n + 1 - (intOf kv).toNat)
    case atStart => exact ⟨0, Nat.zero_le _, rfl, rfl⟩
    case round =>
      obtain ⟨j, hj, rfl, rfl⟩ := hrel
      have hiff := cntB_pow n j (by have := HN.out; omega)
      have hpl : 256 ^ j ≤ 72057594037927936 := by
        have : 256 ^ j ≤ 256 ^ 7 := Nat.pow_le_pow_right (by decide) (by omega)
        omega
      by_cases hlt : j < cntB n
      · have h1 := hiff.1 hlt
        have hp6 : 256 ^ j ≤ 281474976710656 := by
          have : 256 ^ j ≤ 256 ^ 6 := Nat.pow_le_pow_right (by decide) (by omega)
          omega
        have HD : Hid (256 ^ (j + 1) = 256 * 256 ^ j) := by show _ = _; rw [Nat.pow_succ, Nat.mul_comm]
        clear hiff
        generalize 256 ^ j = X at *
        have e1 : (X : Int) ≤ (n : Int) := by omega
        have e2 : (X : Int) ≤ 281474976710656 := by omega
        have j3 : (j : Int) ≤ 7 := by omega
        clear hpl hp6 h1 hn
        go_wp2
        go_round
        case rel => exact ⟨j + 1, by omega, by rw [HD.out]; go_num, by go_num⟩
        case measure => simp [intOf]; omega
      · obtain rfl : j = cntB n := by omega
        have h1 : n < 256 ^ cntB n := by
          rcases Nat.lt_or_ge n (256 ^ cntB n) with h | h
          · exact h
          · exact absurd (hiff.2 h) hlt
        clear hiff
        have e1 : (n : Int) < ((256 ^ cntB n : Nat) : Int) := by omega
        have HP : Hid (∀ t, t < cntB n → 256 ^ (cntB n - t) = 256 * 256 ^ (cntB n - (t + 1)) ∧ 1 ≤ 256 ^ (cntB n - (t + 1)) ∧ 256 ^ (cntB n - (t + 1)) ≤ 281474976710656) := by
          intro t ht
          refine ⟨?_, Nat.pow_pos (by decide), ?_⟩
          · rw [show cntB n - t = (cntB n - (t + 1)) + 1 from by omega, Nat.pow_succ, Nat.mul_comm]
          · have : 256 ^ (cntB n - (t + 1)) ≤ 256 ^ 6 := Nat.pow_le_pow_right (by decide) (by omega)
            omega
        have HG : Hid (∀ t, t < cntB n → (lenS n).getD t 0 = ((n / 256 ^ (cntB n - (t + 1)) % 256 : Nat) : Int)) := by
          intro t ht
          rw [lenS_getD n t ht, show cntB n - 1 - t = cntB n - (t + 1) from by omega]
        have HT : Hid (∀ t, t < cntB n → ((lenS n).take (t + 1)).map (Value.int .u8) = ((lenS n).take t).map (Value.int .u8) ++ [.int .u8 ((lenS n).getD t 0)]) := fun t ht => take_snocD _ _ (by omega)
        have HTL : Hid ((lenS n).take (cntB n) = lenS n) := by show _ = _; rw [← hL]; exact List.take_length
        have HP0 : Hid (((256 ^ cntB n : Nat) : Int) = ((256 ^ (cntB n - 0) : Nat) : Int)) := rfl
        generalize hX : 256 ^ cntB n = X at *
        have HX := hide hX
        generalize cntB n = K at *
        generalize lenS n = LS at *
        clear hX hpl
        have hKI : (K : Int) ≤ 7 := by omega
        go_wp2_with (at_builtin; go_must (refine wpList_append_lies _ rfl (.tmp 23) (.tmp 29) 79 rfl w.heap.size 5 i0 (.int .u8 0) 1 1 Try.underlying79 hi hz0 hz1 hz2 rfl (by decide) (.slice none 0 0) 0 [] rfl (World.ownsRow_nil _ _ _ _) ⟨w.heap.size, 0, none⟩ 1 1 [.int .u8 ((mark : Int) + 55 + (K : Int))] rfl rfl (World.news_of_block (cs := #[.int .u8 ((mark : Int) + 55 + (K : Int))]) (t := 5) (fr := (0, 0)) (heap_alloc_new w _)) (by simp [Value.oneCell']) (by omega) (by unfold maxLen; omega) (by omega) (by simp) _ rfl ?_); intro g1 c1 w1 ho1 hg1 hat1 hlt1; go_must (have HO1 := hide (And.intro ho1 hg1)); clear ho1 hg1 hat1 hlt1)
        have HB1 : Hid (Below w.heap.size w w1) := (below_alloc w _).grown HO1.out.2 (by simp) (fun k e => by cases e)
        go_loopw [5, 6] (fun v bv wr => ∃ t : Nat, t ≤ K ∧ bv = .int .i64 ((256 ^ (K - t) : Nat) : Int) ∧ wr.ownsRow w.heap.size 5 1 v (t + 1) (.int .u8 ((mark : Int) + 55 + (K : Int)) :: (LS.take t).map (Value.int .u8)) ∧ Below w.heap.size w wr) (fun _ bv _ => (intOf bv).toNat)
        case atStart => exact ⟨0, Nat.zero_le _, by rw [← HX.out]; rfl, by simpa using HO1.out.1, HB1.out⟩
        case round =>
          obtain ⟨t, ht, rfl, hown, hbw⟩ := hrel
          have HOW := hide hown
          have HBW := hide hbw
          clear hown hbw
          by_cases htl : t < K
          · obtain ⟨y1, y2, y3⟩ := HP.out t htl
            have hg := HG.out t htl
            have htk := HT.out t htl
            obtain ⟨Y, hY⟩ : ∃ Y, Hid (256 ^ (K - (t + 1)) = Y) := ⟨256 ^ (K - (t + 1)), Eq.refl _⟩
            rw [hY.out] at y1 y2 y3 hg
            rw [hg] at htk
            rw [y1]
            have HTK := hide htk
            have HQl : n / Y < 72057594037927936 := Nat.lt_of_le_of_lt (Nat.div_le_self _ _) HN.out
            have f6 : (n : Int) / (Y : Int) = ((n / Y : Nat) : Int) := by omega
            have HYm : Hid (((n / Y % 256 : Nat) : Int) = ((n / Y : Nat) : Int) % 256) := by show _ = _; omega
            clear htk hg y1
            have f1 : (1 : Int) < ((256 * Y : Nat) : Int) := by omega
            have f2 : ((256 * Y : Nat) : Int) / 256 = (Y : Int) := by omega
            have f3 : (1 : Int) ≤ (Y : Int) := by omega
            have f4 : ((Y : Int) == 0) = false := by simp; omega
            have f5 : (Y : Int) ≤ 281474976710656 := by omega
            rw [HYm.out] at HTK
            clear HYm
            generalize n / Y = Qq at *
            go_wp2_with (at_builtin; go_must (refine wpList_append_lies _ rfl (.tmp 35) (.tmp 41) 79 rfl w.heap.size 5 i0 (.int .u8 0) 1 1 Try.underlying79 hi hz0 hz1 hz2 rfl (by decide) u5 (t + 1) _ rfl (HOW.out.alloc _) ⟨wr.heap.size, 0, none⟩ 1 1 [.int .u8 ((Qq : Int) % 256)] rfl rfl (World.news_of_block (cs := #[.int .u8 ((Qq : Int) % 256)]) (t := 5) (fr := (0, 0)) (heap_alloc_new wr _)) (by simp [Value.oneCell']) (by omega) (by unfold maxLen; omega) (by omega) (by have := HBW.out.size; simp; omega) _ rfl ?_); intro g3 c3 w3 ho3 hg3 hat3 hlt3; go_must (have HO3 := hide (And.intro ho3 hg3)); clear ho3 hg3 hat3 hlt3)
            go_roundw
            case rel => exact ⟨t + 1, by omega, by rw [hY.out], by rw [HTK.out]; exact HO3.out.1, (HBW.out.alloc HBW.out.size _).grown HO3.out.2 (by have := HBW.out.size; simp; omega) (own_ge HOW.out (Nat.le_refl _))⟩
            case measure => simp [intOf]; omega
          · obtain rfl : t = K := by omega
            have hO := HOW.out
            rw [HTL.out] at hO
            rw [show t - t = 0 from Nat.sub_self t, show ((256 ^ 0 : Nat) : Int) = 1 from rfl]
            have hcv := conv_own (bs := ((mark : Int) + 55 + (t : Int)) :: LS) (by simpa using hO)
            clear hO
            go_wp2
            go_ret
            exact ⟨by rw [HE.out]; rfl, HBW.out⟩
end Go.Proofs.Ytoafiieciiijbaa
