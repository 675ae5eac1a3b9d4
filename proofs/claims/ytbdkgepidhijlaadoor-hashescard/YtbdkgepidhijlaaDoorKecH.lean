/-
  OUR OWN: the walk of canopyref.constants.
-/
import Derived.Test.YtbdkgepidhijlaaDoorKecG
namespace Go.Proofs.YtbdkgepidhijlaaDoor
open Go.RowKit

theorem info27 : (Tryd.prog.info? 27).map (fun i => (i.zero, i.size, i.bytes)) = some (some (.int .u64 0), 1, 8) := by kernel_rfl

def nextR (r : Nat) : Nat := if 255 < 2 * r then (2 * r - 256) ^^^ 113 else 2 * r
def rs : Nat → Nat
  | 0 => 1
  | n + 1 => nextR (rs n)
def wTo (k : Nat) : Nat → Nat
  | 0 => 0
  | j + 1 => if rs (7 * k + j) % 2 = 1 then wTo k j ||| 2 ^ (2 ^ j - 1) else wTo k j
theorem wTo_rc : ∀ k : Fin 24, wTo k.val 7 = rc k.val := by decide +kernel
theorem nextR_lt (r : Nat) (h : r < 256) : nextR r < 256 := by
  unfold nextR
  split
  · have : (2 * r - 256) ^^^ 113 < 2 ^ 8 := Nat.xor_lt_two_pow (by omega) (by omega)
    omega
  · omega
theorem rs_lt : ∀ n, rs n < 256
  | 0 => by simp [rs]
  | n + 1 => nextR_lt _ (rs_lt n)
theorem wTo_w (k : Nat) : ∀ j, j ≤ 7 → W64 (wTo k j)
  | 0, _ => by unfold W64; simp [wTo]
  | j + 1, h => by
    simp only [wTo]
    split
    · refine W64.or (wTo_w k j (by omega)) ?_
      have h1 : 2 ^ j ≤ 2 ^ 6 := Nat.pow_le_pow_right (by omega) (by omega)
      have h2 : 2 ^ (2 ^ j - 1) ≤ 2 ^ 63 := Nat.pow_le_pow_right (by omega) (by omega)
      unfold W64; omega
    · exact wTo_w k j (by omega)
theorem xor113_fin : ∀ a : Fin 256, bits BinOp.xor IntKind.i64 (a.val : Int) 113 = ((a.val ^^^ 113 : Nat) : Int) := by decide +kernel

theorem news_ofT (w : World) (t : TypeId) (l : List Value) : ∀ j u, l[j]? = some u → (w.alloc (.cells l.toArray t)).cell? ((⟨w.heap.size, 0, none⟩ : Addr).add j) = some u :=
  World.news_of_block (cs := l.toArray) (t := t) (fr := (0, 0)) (heap_alloc_new w _)
theorem sh_fin : ∀ j : Fin 7, IntKind.u64.wrap (2 ^ min (IntKind.u64.wrap (IntKind.u64.wrap (2 ^ j.val) - 1)).toNat 64) = ((2 ^ (2 ^ j.val - 1) : Nat) : Int) := by decide +kernel
theorem next_big (r : Nat) (hr : r < 256) (h : (255 : Int) < 2 * (r : Int)) : Value.int IntKind.i64 (bits BinOp.xor IntKind.i64 (2 * (r : Int) - 256) 113) = .int .i64 ((nextR r : Nat) : Int) := by
  have e : (2 * (r : Int) - 256) = (((2 * r - 256 : Nat)) : Int) := by omega
  rw [e, xor113_fin ⟨2 * r - 256, by omega⟩]
  unfold nextR
  rw [if_pos (by omega)]
theorem next_small (r : Nat) (h : 2 * (r : Int) ≤ 255) : Value.int IntKind.i64 (2 * (r : Int)) = .int .i64 ((nextR r : Nat) : Int) := by
  unfold nextR
  rw [if_neg (by omega)]
  congr 1
theorem w_odd (r j x : Nat) (hj : j < 7) (hx : W64 x) (h : ((r : Int) % 2 == 1) = true) : Value.int IntKind.u64 (bits BinOp.or IntKind.u64 (x : Int) (IntKind.u64.wrap (2 ^ min (IntKind.u64.wrap (IntKind.u64.wrap (2 ^ j) - 1)).toNat 64))) = .int .u64 ((if r % 2 = 1 then x ||| 2 ^ (2 ^ j - 1) else x : Nat) : Int) := by
  have h1 : 2 ^ j ≤ 2 ^ 6 := Nat.pow_le_pow_right (by omega) (by omega)
  have h2 : 2 ^ (2 ^ j - 1) ≤ 2 ^ 63 := Nat.pow_le_pow_right (by omega) (by omega)
  rw [sh_fin ⟨j, hj⟩, u64_or_nat _ _ hx.lt (by show 2 ^ (2 ^ j - 1) < _; omega), if_pos (by simp at h; omega)]
theorem w_even (r j x : Nat) (h : ((r : Int) % 2 == 1) = false) : Value.int IntKind.u64 (x : Int) = .int .u64 ((if r % 2 = 1 then x ||| 2 ^ (2 ^ j - 1) else x : Nat) : Int) := by
  rw [if_neg (by simp at h; omega)]
theorem arr_snoc (k : Nat) (f : Nat → Nat) : (arr k f).toList ++ [.int .u64 ((f k : Nat) : Int)] = (arr (k + 1) f).toList := by
  rw [arr_toList, arr_toList, List.range_succ, List.map_append]; rfl

set_option maxRecDepth 100000 in
set_option maxHeartbeats 2000000 in
theorem constants_any (w : World) :
    Calls Tryd.prog 7 #[] w fun e w' => ∃ v, e = .returned v ∧ w'.ownsRow w.heap.size 27 1 v 24 (arr 24 rc).toList ∧ Below w.heap.size w w' := by
  obtain ⟨i0, hi, hz0, hz1, hz2⟩ := info_parts info27
  go_enter Tryd.func7, Tryd.ntmps7
  go_wp2
  go_loopw [1, 2, 3] (fun v r i wr => ∃ k : Nat, k ≤ 24 ∧ i = .int .i64 (k : Int) ∧ r = .int .i64 ((rs (7 * k) : Nat) : Int) ∧ wr.ownsRow w.heap.size 27 1 v k (arr k rc).toList ∧ Below w.heap.size w wr) (fun _ _ i _ => 24 - (intOf i).toNat)
  case atStart => exact ⟨0, Nat.zero_le _, rfl, rfl, World.ownsRow_nil _ _ _ _, Below.refl _ _⟩
  case round =>
    obtain ⟨k, hk, rfl, rfl, hown, hb⟩ := hrel
    have HO := hide hown
    have HB := hide hb
    clear hown hb
    by_cases hlt : k < 24
    · go_wp2
      obtain ⟨wo, hwo⟩ : ∃ wo : World, wo = wr := ⟨_, rfl⟩
      subst hwo
      go_loop [2, 4, 5] (fun r v i => ∃ j : Nat, j ≤ 7 ∧ i = .int .i64 (j : Int) ∧ r = .int .i64 ((rs (7 * k + j) : Nat) : Int) ∧ v = .int .u64 ((wTo k j : Nat) : Int)) (fun _ _ i => 7 - (intOf i).toNat)
      case atStart => exact ⟨0, Nat.zero_le _, rfl, rfl, rfl⟩
      case round =>
        obtain ⟨j, hj, rfl, rfl, rfl⟩ := hrel
        by_cases hj7 : j < 7
        · have hr := rs_lt (7 * k + j)
          have HR : Hid (rs (7 * k + (j + 1)) = nextR (rs (7 * k + j))) := rfl
          have HW : Hid (wTo k (j + 1) = if rs (7 * k + j) % 2 = 1 then wTo k j ||| 2 ^ (2 ^ j - 1) else wTo k j) := rfl
          have hww := wTo_w k j (by omega)
          generalize rs (7 * k + j) = r at *
          generalize wTo k j = x at *
          go_wp2
          all_goals
            go_round
            case rel =>
              refine ⟨j + 1, by omega, by go_num, ?_, ?_⟩
              · rw [HR.out]
                first | exact next_big r hr ‹_› | exact next_small r ‹_›
              · rw [HW.out]
                first | exact w_odd r j x hj7 hww ‹_› | exact w_even r j x ‹_›
            case measure => simp [intOf]; omega
        · have hj8 : j = 7 := by omega
          have HR : Hid (rs (7 * k + j) = rs (7 * (k + 1))) := by show _ = _; rw [hj8, show 7 * k + 7 = 7 * (k + 1) from by omega]
          have HW : Hid (wTo k j = rc k) := by show _ = _; rw [hj8]; exact wTo_rc ⟨k, hlt⟩
          clear hj8
          rw [HR.out, HW.out]
          have HS := hide (arr_snoc k rc)
          go_wp2_with (at_builtin; go_must (refine wpList_append_lies _ rfl (.tmp 30) (.tmp 32) 25 rfl w.heap.size 27 i0 (.int .u64 0) 1 8 Tryd.underlying25 hi hz0 hz1 hz2 rfl (by decide) u1 k _ rfl (HO.out.alloc _) ⟨wo.heap.size, 0, none⟩ 1 1 [.int .u64 ((rc k : Nat) : Int)] rfl rfl (news_ofT wo 27 [.int .u64 ((rc k : Nat) : Int)]) (by simp [Value.oneCell']) (by omega) (by unfold maxLen; omega) (by omega) (by have := HB.out.size; simp; omega) _ rfl ?_); intro g c w1 hown1 hgrow1 hat1 hlt1; go_must (have HB1 := hide ((HB.out.alloc HB.out.size _).grown hgrow1 (by have := HB.out.size; simp; omega) (own_ge HO.out (Nat.le_refl _)))); go_must (rw [HS.out] at hown1; have HO1 := hide hown1); clear hown1 hgrow1)
          go_roundw
          case rel => exact ⟨k + 1, by omega, by go_num, rfl, HO1.out, HB1.out⟩
          case measure => simp [intOf]; omega
    · have hk24 : k = 24 := by omega
      rw [hk24] at HO
      clear hk24
      go_wp2
      go_ret
      exact ⟨_, rfl, HO.out, HB.out⟩
end Go.Proofs.YtbdkgepidhijlaaDoor
