/-
  OUR OWN: codes: the bytes of a length: the program's lengthBytes.
-/
import Derived.Test.YtoafiieciiijbaaEncA
import Derived.Test.YtoafiieciiijbaaPathD
namespace Go.Proofs.Ytoafiieciiijbaa
open Go.RowKit
attribute [local go_sem ↓] Go.wp_at_zero Go.wp_at_succ

/-- the k lowest bytes, the lowest first -/
def leN : Nat → Nat → List Int
  | 0, _ => []
  | k + 1, n => ((n % 256 : Nat) : Int) :: leN k (n / 256)
/-- how many bytes a length has -/
def cntB (n : Nat) : Nat := if n = 0 then 0 else if n < 256 then 1 else if n < 65536 then 2 else if n < 16777216 then 3 else if n < 4294967296 then 4 else if n < 1099511627776 then 5 else if n < 281474976710656 then 6 else 7
/-- a length's bytes, the highest first -/
def lenS (n : Nat) : List Int := (leN (cntB n) n).reverse
theorem leN_length : ∀ k n, (leN k n).length = k
  | 0, _ => rfl
  | k + 1, n => by simp [leN, leN_length k]
theorem leN_snoc : ∀ k n, leN (k + 1) n = leN k n ++ [((n / 256 ^ k % 256 : Nat) : Int)]
  | 0, n => by simp [leN]
  | k + 1, n => by
    rw [leN, leN_snoc k (n / 256), leN]
    simp [Nat.pow_succ, Nat.div_div_eq_div_mul, Nat.mul_comm]
theorem cntB_cases (n : Nat) : (n = 0 ∧ cntB n = 0) ∨ (0 < n ∧ n < 256 ∧ cntB n = 1) ∨ (256 ≤ n ∧ n < 65536 ∧ cntB n = 2) ∨ (65536 ≤ n ∧ n < 16777216 ∧ cntB n = 3) ∨ (16777216 ≤ n ∧ n < 4294967296 ∧ cntB n = 4) ∨ (4294967296 ≤ n ∧ n < 1099511627776 ∧ cntB n = 5) ∨ (1099511627776 ≤ n ∧ n < 281474976710656 ∧ cntB n = 6) ∨ (281474976710656 ≤ n ∧ cntB n = 7) := by
  unfold cntB
  split
  · omega
  · split
    · omega
    · split
      · omega
      · split
        · omega
        · split
          · omega
          · split
            · omega
            · split <;> omega
theorem cntB_le7 (n : Nat) : cntB n ≤ 7 := by have := cntB_cases n; omega
theorem cntB_le3 (n : Nat) (h : n < 16777216) : cntB n ≤ 3 := by have := cntB_cases n; omega
theorem cntB_lt (n j : Nat) (hn : n < 72057594037927936) : j < cntB n ↔ 0 < n / 256 ^ j := by
  have hc := cntB_cases n
  match j with
  | 0 => simp only [Nat.pow_zero, Nat.div_one]; omega
  | 1 => rw [show 256 ^ 1 = 256 from rfl]; omega
  | 2 => rw [show 256 ^ 2 = 65536 from rfl]; omega
  | 3 => rw [show 256 ^ 3 = 16777216 from rfl]; omega
  | 4 => rw [show 256 ^ 4 = 4294967296 from rfl]; omega
  | 5 => rw [show 256 ^ 5 = 1099511627776 from rfl]; omega
  | 6 => rw [show 256 ^ 6 = 281474976710656 from rfl]; omega
  | j + 7 =>
    have : n / 256 ^ (j + 7) = 0 := by
      apply Nat.div_eq_of_lt
      have : 256 ^ 7 ≤ 256 ^ (j + 7) := Nat.pow_le_pow_right (by decide) (by omega)
      omega
    rw [this]
    have := cntB_le7 n
    omega
theorem u8_of (n : Nat) : IntKind.u8.wrap (n : Int) = ((n % 256 : Nat) : Int) := by
  rw [IntKind.wrap_u8]; omega

set_option maxHeartbeats 1000000 in
set_option maxRecDepth 20000 in
theorem lengthBytes_any (n : Nat) (w : World) (h0 : 0 < n) (hn : n < 16777216) :
    Calls Try.prog 63 #[.int .i64 (n : Int)] w fun e w' => e = .returned (.string (strOfNums (lenS n))) ∧ Below w.heap.size w w' := by
  obtain ⟨i0, hi, hz0, hz1, hz2⟩ := info_parts info5
  go_enter Try.func63, Try.ntmps63
  go_wp2
  go_loopw [0, 3] (fun nv v wr => ∃ j : Nat, j ≤ cntB n ∧ nv = .int .i64 ((n / 256 ^ j : Nat) : Int) ∧ wr.ownsRow w.heap.size 5 1 v j ((leN j n).map (Value.int .u8)) ∧ Below w.heap.size w wr) (fun nv _ _ => (intOf nv).toNat)
  case atStart => exact ⟨0, Nat.zero_le _, by simp, World.ownsRow_nil _ _ _ _, Below.refl _ _⟩
  case round =>
    obtain ⟨j, hj, rfl, hown, hbw⟩ := hrel
    have hiff := cntB_lt n j (by omega)
    have hc3 : cntB n ≤ 3 := cntB_le3 n hn
    have hm : n / 256 ^ j < 16777216 := Nat.lt_of_le_of_lt (Nat.div_le_self _ _) hn
    by_cases hlt : j < cntB n
    · have hpos := hiff.1 hlt
      have HS : Hid ((leN (j + 1) n).map (Value.int .u8) = (leN j n).map (Value.int .u8) ++ [.int .u8 ((n / 256 ^ j % 256 : Nat) : Int)]) := by show _ = _; rw [leN_snoc]; simp
      have HD : Hid (n / 256 ^ (j + 1) = n / 256 ^ j / 256) := by show _ = _; rw [Nat.pow_succ, Nat.div_div_eq_div_mul]
      generalize n / 256 ^ j = X at *
      have HOW := hide hown
      have HBW := hide hbw
      have k1 := u8_of X
      clear hown hbw hiff
      have hXm : ((X % 256 : Nat) : Int) = (X : Int) % 256 := by omega
      rw [hXm] at HS
      clear hXm k1
      go_wp2_with (at_builtin; go_must (refine wpList_append_lies _ rfl (.tmp 8) (.tmp 11) 79 rfl w.heap.size 5 i0 (.int .u8 0) 1 1 Try.underlying79 hi hz0 hz1 hz2 rfl (by decide) u3 j _ rfl (HOW.out.alloc _) ⟨wr.heap.size, 0, none⟩ 1 1 [.int .u8 ((X : Int) % 256)] rfl rfl (World.news_of_block (cs := #[.int .u8 ((X : Int) % 256)]) (t := 5) (fr := (0, 0)) (heap_alloc_new wr _)) (by simp [Value.oneCell']) (by omega) (by unfold maxLen; omega) (by omega) (by have := HBW.out.size; simp; omega) _ rfl ?_); intro g3 c3 w3 ho3 hg3 hat3 hlt3; go_must (have HO3 := hide (And.intro ho3 hg3)); clear ho3 hg3 hat3 hlt3)
      go_roundw
      case rel => exact ⟨j + 1, by omega, by rw [HD.out]; go_num, by rw [HS.out]; exact HO3.out.1, (HBW.out.alloc HBW.out.size _).grown HO3.out.2 (by have := HBW.out.size; simp; omega) (own_ge HOW.out (Nat.le_refl _))⟩
      case measure => simp [intOf]; omega
    · have hje : j = cntB n := by omega
      have hz : n / 256 ^ j = 0 := Nat.eq_zero_of_not_pos (fun h => hlt (hiff.2 h))
      rw [hz]
      rw [hje] at hown
      have HBW := hide hbw
      have HOW := hide hown
      clear hown hbw hiff hz
      have hcn : 1 ≤ cntB n := by have := cntB_cases n; omega
      obtain ⟨g, c, rfl, hgb, _⟩ := HOW.out.form (by omega)
      have fin : ∀ (w5 : World), Below w.heap.size wr w5 → w5.ownsRow w.heap.size 5 1 (.slice (some ⟨g, 0, none⟩) (cntB n) c) (cntB n) ((lenS n).map (Value.int .u8)) → Below w.heap.size w w5 ∧ (convert 79 9 (.slice (some ⟨g, 0, none⟩) (cntB n) c)).run Try.prog w5 = .ok (.string (strOfNums (lenS n))) w5 :=
        fun w5 hb ho => ⟨HBW.out.trans hb, conv_own ho⟩
      have hrev : Calls Try.prog 69 #[.slice (some ⟨g, 0, none⟩) (cntB n) c] wr fun e w' => e = .returned (.tuple #[]) ∧ w'.ownsRow w.heap.size 5 1 (.slice (some ⟨g, 0, none⟩) (cntB n) c) (cntB n) ((lenS n).map (Value.int .u8)) ∧ Below w.heap.size wr w' := by
        have hO := HOW.out
        unfold lenS
        match hk : cntB n, hcn, hc3 with
        | 1, _, _ =>
          rw [hk] at hO
          refine (reverse_one w.heap.size g c _ wr hO).mono ?_
          rintro e w' ⟨rfl, rfl⟩
          exact ⟨rfl, hO, Below.refl _ _⟩
        | 2, _, _ =>
          rw [hk] at hO
          exact reverse_two w.heap.size g c _ _ wr hO hgb
        | 3, _, _ =>
          rw [hk] at hO
          exact reverse_three w.heap.size g c _ _ _ wr hO hgb
      have HR := hide hrev
      have HFn := hide fin
      clear hrev fin
      generalize cntB n = K at *
      go_wp2_with fail
      refine HR.out.mono ?_
      rintro e w5 ⟨rfl, ho5, hb5⟩
      obtain ⟨hb6, hcv⟩ := HFn.out w5 hb5 ho5
      go_wp2
      go_ret
      exact ⟨rfl, hb6⟩
end Go.Proofs.Ytoafiieciiijbaa
