/-
  OUR OWN: walks of canopyref.halves.
-/
import Derived.Test.YtoafiieciiijbaaPathD
namespace Go.Proofs.Ytoafiieciiijbaa
open Go.RowKit
attribute [local go_sem ↓] Go.wp_at_zero Go.wp_at_succ

/-- the halves of bytes -/
def nibs : List UInt8 → List Int
  | [] => []
  | b :: r => (b.toNat : Int) / 16 :: (b.toNat : Int) % 16 :: nibs r
theorem nibs_length (l : List UInt8) : (nibs l).length = 2 * l.length := by
  induction l with
  | nil => rfl
  | cons b r ih => simp [nibs, ih]; omega
theorem nibs_append (l m : List UInt8) : nibs (l ++ m) = nibs l ++ nibs m := by
  induction l with
  | nil => rfl
  | cons b r ih => simp [nibs, ih]
theorem take_snoc (s : ByteArray) (k : Nat) (h : k < s.size) : s.data.toList.take (k + 1) = s.data.toList.take k ++ [s[k]] := by
  rw [List.take_succ_eq_append_getElem (by simpa using h)]; rfl
theorem nibs_snoc (s : ByteArray) (k : Nat) (h : k < s.size) : (nibs (s.data.toList.take (k + 1))).map (Value.int .i64) = (nibs (s.data.toList.take k)).map (Value.int .i64) ++ [.int .i64 ((s[k].toNat : Int) / 16), .int .i64 ((s[k].toNat : Int) % 16)] := by
  rw [take_snoc s k h, nibs_append]; simp [nibs]

set_option maxRecDepth 100000 in
set_option maxHeartbeats 400000 in
theorem halves_any (s : ByteArray) (w : World) (hs : s.size ≤ 2097152) :
    Calls Try.prog 38 #[.string s] w fun e w' => ∃ v, e = .returned v ∧ w'.ownsRow w.heap.size 3 1 v (2 * s.size) ((nibs s.data.toList).map (Value.int .i64)) ∧ Below w.heap.size w w' := by
  obtain ⟨i0, hi, hz0, hz1, hz2⟩ := info_parts info3
  go_enter Try.func38, Try.ntmps38
  go_wp2
  go_loopw [3, 4] (fun v i wr => ∃ k : Nat, k ≤ s.size ∧ i = .int .i64 (k : Int) ∧ wr.ownsRow w.heap.size 3 1 v (2 * k) ((nibs (s.data.toList.take k)).map (Value.int .i64)) ∧ Below w.heap.size w wr) (fun _ i _ => s.size - (intOf i).toNat)
  case atStart => exact ⟨0, Nat.zero_le _, rfl, World.ownsRow_nil _ _ _ _, Below.refl _ _⟩
  case round =>
    obtain ⟨k, hk, rfl, hown, hbw⟩ := hrel
    by_cases hlt : k < s.size
    · have HS := hide (nibs_snoc s k hlt)
      have hb1 : (0 : Int) ≤ (s[k].toNat : Int) := by omega
      have hb2 : (s[k].toNat : Int) < 256 := by have := s[k].toNat_lt; omega
      have HOW := hide hown
      have HBW := hide hbw
      clear hown hbw
      have b0 : (0 : Int) ≤ (k : Int) := by omega
      have b1 : (k : Int) < (s.size : Int) := by omega
      have k1 : IntKind.i64.wrap (s[k].toNat : Int) = (s[k].toNat : Int) := by rw [IntKind.wrap_i64]; omega
      have k2 : (s[k].toNat : Int).tdiv 16 = (s[k].toNat : Int) / 16 := Int.tdiv_eq_ediv_of_nonneg hb1
      have k3 : (s[k].toNat : Int).tmod 16 = (s[k].toNat : Int) % 16 := Int.tmod_eq_emod_of_nonneg hb1
      have k4 : IntKind.i64.wrap ((s[k].toNat : Int) / 16) = (s[k].toNat : Int) / 16 := by rw [IntKind.wrap_i64]; omega
      go_wp2
      go_region_held3 (fun _ => True) (first | trivial | go_keep)
        ((refine step_append_lies _ (by rfl) _ _ _ (by rfl) w.heap.size 3 i0 _ 1 8 Try.underlying48 hi hz0 hz1 hz2 rfl (by omega) u3 (2 * k) _ (by rfl) ((HOW.out.alloc _).drew)
            ⟨wr.heap.size, 0, none⟩ 2 2 [.int .i64 ((s[k].toNat : Int) / 16), .int .i64 ((s[k].toNat : Int) % 16)] (by rfl) (by rfl) (World.news_of_block (cs := #[.int .i64 ((s[k].toNat : Int) / 16), .int .i64 ((s[k].toNat : Int) % 16)]) (t := 3) (fr := (0, 0)) (heap_alloc_new wr _)) (by simp [Value.oneCell'])
            (by omega) (by unfold maxLen; omega) (by omega) (by have := HBW.out.size; simp; omega) (wr.heap.size + 1) (by simp) ?_; intro gg cap2 w3 hown3 hgrow hat3 hlt3))
      all_goals
        have hb3 := ((HBW.out.alloc HBW.out.size _).drew).grown hgrow (by have := HBW.out.size; simp; omega) (own_ge HOW.out (Nat.le_refl _))
        rw [← HS.out] at hown3
        have HO3 := hide hown3
        have HB3 := hide hb3
        clear hown3 hb3 hgrow
        go_wp2
        go_roundw
        case rel => exact ⟨k + 1, by omega, by go_num, by rw [show 2 * (k + 1) = 2 * k + 2 from by omega]; exact HO3.out, HB3.out⟩
        case measure => simp [intOf]; omega
    · have hke : k = s.size := by omega
      have HF : Hid (wr.ownsRow w.heap.size 3 1 u3 (2 * s.size) ((nibs s.data.toList).map (Value.int .i64))) := by
        show wr.ownsRow w.heap.size 3 1 u3 (2 * s.size) ((nibs s.data.toList).map (Value.int .i64))
        rw [← hke]
        rw [List.take_of_length_le (by rw [hke, Array.length_toList]; exact Nat.le_refl _)] at hown
        exact hown
      have HBW := hide hbw
      clear hown hbw hke
      go_wp2
      go_ret
      exact ⟨_, rfl, HF.out, HBW.out⟩

end Go.Proofs.Ytoafiieciiijbaa
