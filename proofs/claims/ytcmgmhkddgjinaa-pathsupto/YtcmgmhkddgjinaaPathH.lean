/-
  OUR OWN: walks of paths.Unpack, where it answers a path.
-/
import Derived.Test.YtcmgmhkddgjinaaPathG
namespace Go.Proofs.Ytcmgmhkddgjinaa
open Go.RowKit
attribute [local go_sem ↓] Go.wp_at_zero Go.wp_at_succ

/-- the bytes from the second on, up to k -/
def mid (s : ByteArray) (k : Nat) : List UInt8 := (s.data.toList.take k).drop 1
theorem mid_snoc (s : ByteArray) (k : Nat) (h1 : 1 ≤ k) (h : k < s.size) : mid s (k + 1) = mid s k ++ [s[k]] := by
  unfold mid
  rw [take_snoc s k h, List.drop_append_of_le_length]
  rw [List.length_take, Array.length_toList]
  have : s.data.size = s.size := rfl
  omega
theorem mid_full (s : ByteArray) : mid s s.size = s.data.toList.drop 1 := by
  unfold mid; rw [List.take_of_length_le (by rw [Array.length_toList]; exact Nat.le_refl _)]
theorem mid_one (s : ByteArray) : mid s 1 = [] := by
  unfold mid
  rw [List.drop_eq_nil_iff]; simp; omega
theorem pre_snoc (pre : List Int) (s : ByteArray) (k : Nat) (h1 : 1 ≤ k) (h : k < s.size) : ((pre ++ nibs (mid s k)).map (Value.int .i64)) ++ [.int .i64 ((s[k].toNat : Int) / 16), .int .i64 ((s[k].toNat : Int) % 16)] = (pre ++ nibs (mid s (k + 1))).map (Value.int .i64) := by
  rw [mid_snoc s k h1 h, nibs_append]; simp [nibs]

set_option maxRecDepth 100000 in
set_option maxHeartbeats 400000 in
theorem pUnpack_g0 (s : ByteArray) (w : World) (h0 : 0 < s.size) (h : s.size ≤ 65) (hm : (s[0].toNat : Int) / 16 = 0) (hx : (s[0].toNat : Int) % 16 = 0) :
    Calls Try.prog 37 #[.string s] w fun e w' => ∃ v, e = .returned (.tuple #[v, .bool false, .int .i64 0]) ∧ w'.ownsRow w.heap.size 3 1 v (0 + 2 * (s.size - 1)) (([] ++ nibs (s.data.toList.drop 1)).map (Value.int .i64)) ∧ Below w.heap.size w w' ∧ ∃ g n c, v = .slice (some ⟨g, 0, none⟩) n c := by
  obtain ⟨i0, hi, hz0, hz1, hz2⟩ := info_parts info3
  obtain ⟨n, M, hn, hM, hmk⟩ : ∃ (n : Nat) (M : Array Value), Hid (n = 2 * s.size) ∧ Hid (M.size = n * 1) ∧ ∀ w : World, (Instr.makeSlice 48 (.int .i64 0) (.int .i64 (2 * (s.size : Int)))).run Try.prog w =
    .ok (.slice (some ⟨w.heap.size, 0, none⟩) 0 n) (w.alloc (.cells M 3)) := ⟨2 * s.size, madeCells #[.int .i64 0] (2 * s.size), rfl, by simp [Hid, madeCells], fun w => by have := make_ints0 (2 * s.size) (by omega) w; simpa using this⟩
  have hown0 := hide (fun m : Nat => World.ownsRow_made (base := w.heap.size) (e := 3) (size := 1) (w.drewN m) M n (Nat.le_refl _) (by unfold maxLen; rw [hn.out]; omega) hM.out)
  have hne := ne_empty h0
  have hb2 : (s[0].toNat : Int) < 256 := by have := s[0].toNat_lt; omega
  have hbt := and15 s[0]
  rw [hx] at hbt
  clear hx
  have p1 : bits BinOp.and IntKind.i64 0 1 = 0 := by decide +kernel
  have p2 : bits BinOp.and IntKind.i64 0 2 = 0 := by decide +kernel
  go_enter Try.func37, Try.ntmps37
  go_wp2
  go_quiet (fail)
  go_wp2
  go_loopw [8, 9] (fun v i wr => ∃ k : Nat, 1 ≤ k ∧ k ≤ s.size ∧ i = .int .i64 (k : Int) ∧ wr.ownsRow w.heap.size 3 1 v (0 + 2 * (k - 1)) (([] ++ nibs (mid s k)).map (Value.int .i64)) ∧ Below w.heap.size w wr ∧ Hid (∃ g n c, v = .slice (some ⟨g, 0, none⟩) n c)) (fun _ i _ => s.size - (intOf i).toNat)
  case atStart => exact ⟨1, Nat.le_refl _, h0, rfl, by rw [mid_one]; exact hown0.out nq, (below_drewN (Below.refl _ w) nq).trans (below_alloc (w.drewN nq) _), ⟨_, _, _, rfl⟩⟩
  case round =>
    obtain ⟨k, hk1, hk, rfl, hown, hbw, hsh⟩ := hrel
    by_cases hlt : k < s.size
    · have HS := hide (pre_snoc [] s k hk1 hlt)
      have hb1 : (0 : Int) ≤ (s[k].toNat : Int) := by omega
      have hb2 : (s[k].toNat : Int) < 256 := by have := s[k].toNat_lt; omega
      have hbt2 := and15 s[k]
      have HOW := hide hown
      have HBW := hide hbw
      clear hown hbw
      have b0 : (0 : Int) ≤ (k : Int) := by omega
      have b1 : (k : Int) < (s.size : Int) := by omega
      have k2 : IntKind.i64.wrap ((s[k].toNat : Int) / 16) = (s[k].toNat : Int) / 16 := by rw [IntKind.wrap_i64]; omega
      have k3 : IntKind.i64.wrap ((s[k].toNat : Int) % 16) = (s[k].toNat : Int) % 16 := by rw [IntKind.wrap_i64]; omega
      go_wp2
      go_region_held3 (fun _ => True) (first | trivial | go_keep)
        ((refine step_append_lies _ (by rfl) _ _ _ (by rfl) w.heap.size 3 i0 _ 1 8 Try.underlying48 hi hz0 hz1 hz2 rfl (by omega) u8 (0 + 2 * (k - 1)) _ (by rfl) ((HOW.out.alloc _).drew)
            ⟨wr.heap.size, 0, none⟩ 2 2 [.int .i64 ((s[k].toNat : Int) / 16), .int .i64 ((s[k].toNat : Int) % 16)] (by rfl) (by rfl) (World.news_of_block (cs := #[.int .i64 ((s[k].toNat : Int) / 16), .int .i64 ((s[k].toNat : Int) % 16)]) (t := 3) (fr := (0, 0)) (heap_alloc_new wr _)) (by simp [Value.oneCell'])
            (by omega) (by unfold maxLen; omega) (by omega) (by have := HBW.out.size; simp; omega) (wr.heap.size + 1) (by simp) ?_; intro gg cap2 w3 hown3 hgrow hat3 hlt3))
      all_goals
        have hb3 := ((HBW.out.alloc HBW.out.size _).drew).grown hgrow (by have := HBW.out.size; simp; omega) (own_ge HOW.out (Nat.le_refl _))
        rw [HS.out] at hown3
        have HO3 := hide hown3
        have HB3 := hide hb3
        clear hown3 hb3 hgrow
        go_wp2
        go_roundw
        case rel => exact ⟨k + 1, by omega, by omega, by go_num, by rw [show 0 + 2 * (k + 1 - 1) = 0 + 2 * (k - 1) + 2 from by omega]; have := HO3.out; simpa only [Nat.zero_add] using this, HB3.out, ⟨_, _, _, rfl⟩⟩
        case measure => simp [intOf]; omega
    · have hke : k = s.size := by omega
      rw [hke, mid_full] at hown
      have HF := hide hown
      have HBW := hide hbw
      clear hown hbw hke
      go_wp2
      go_ret3
      exact ⟨_, rfl, HF.out, HBW.out, hsh.out⟩

set_option maxRecDepth 100000 in
set_option maxHeartbeats 400000 in
theorem pUnpack_g1 (s : ByteArray) (w : World) (h0 : 0 < s.size) (h : s.size ≤ 64) (x : Int) (hm : (s[0].toNat : Int) / 16 = 1) (hx : (s[0].toNat : Int) % 16 = x) :
    Calls Try.prog 37 #[.string s] w fun e w' => ∃ v, e = .returned (.tuple #[v, .bool false, .int .i64 0]) ∧ w'.ownsRow w.heap.size 3 1 v (1 + 2 * (s.size - 1)) (([x] ++ nibs (s.data.toList.drop 1)).map (Value.int .i64)) ∧ Below w.heap.size w w' ∧ ∃ g n c, v = .slice (some ⟨g, 0, none⟩) n c := by
  obtain ⟨i0, hi, hz0, hz1, hz2⟩ := info_parts info3
  obtain ⟨n, M, hn, hM, hmk⟩ : ∃ (n : Nat) (M : Array Value), Hid (n = 2 * s.size) ∧ Hid (M.size = n * 1) ∧ ∀ w : World, (Instr.makeSlice 48 (.int .i64 0) (.int .i64 (2 * (s.size : Int)))).run Try.prog w =
    .ok (.slice (some ⟨w.heap.size, 0, none⟩) 0 n) (w.alloc (.cells M 3)) := ⟨2 * s.size, madeCells #[.int .i64 0] (2 * s.size), rfl, by simp [Hid, madeCells], fun w => by have := make_ints0 (2 * s.size) (by omega) w; simpa using this⟩
  have hown0 := hide (fun m : Nat => World.ownsRow_made (base := w.heap.size) (e := 3) (size := 1) (w.drewN m) M n (Nat.le_refl _) (by unfold maxLen; rw [hn.out]; omega) hM.out)
  have hne := ne_empty h0
  have hb2 : (s[0].toNat : Int) < 256 := by have := s[0].toNat_lt; omega
  have hbt := and15 s[0]
  rw [hx] at hbt
  have x1 : 0 ≤ x := by omega
  have x2 : x ≤ 15 := by omega
  clear hx
  have p1 : bits BinOp.and IntKind.i64 1 1 = 1 := by decide +kernel
  have p2 : bits BinOp.and IntKind.i64 1 2 = 0 := by decide +kernel
  go_enter Try.func37, Try.ntmps37
  go_wp2
  go_quiet (fail)
  go_wp2_with (at_builtin; go_must (refine wpList_append_lies _ rfl (.tmp 51) (.tmp 53) 48 rfl w.heap.size 3 i0 (.int .i64 0) 1 8 Try.underlying48 hi hz0 hz1 hz2 rfl (by decide) _ 0 [] rfl ((hown0.out nq).alloc _) ⟨w.heap.size + 1, 0, none⟩ 1 1 [.int .i64 x] rfl rfl ?cn (by simp [Value.oneCell']) (by omega) (by unfold maxLen; omega) (by omega) (by simp <;> omega) _ rfl ?_))
  case cn => exact fun j u hu => by simpa using news_of ((w.drewN nq).alloc (.cells M 3)) [.int .i64 x] j u hu
  intro g c w1 hown1 hgrow1 hat1 hlt1
  have hb1 : Below w.heap.size w w1 := ((below_drewN (Below.refl _ w) nq).trans (below_alloc2 (w.drewN nq) _ _)).grown hgrow1 (by simp <;> omega) (row_ge (Nat.le_refl _))
  have HO1 := hide hown1
  have HB1 := hide hb1
  clear hown1 hb1 hgrow1 hat1 hlt1
  go_wp2
  go_loopw [8, 9] (fun v i wr => ∃ k : Nat, 1 ≤ k ∧ k ≤ s.size ∧ i = .int .i64 (k : Int) ∧ wr.ownsRow w.heap.size 3 1 v (1 + 2 * (k - 1)) (([x] ++ nibs (mid s k)).map (Value.int .i64)) ∧ Below w.heap.size w wr ∧ Hid (∃ g n c, v = .slice (some ⟨g, 0, none⟩) n c)) (fun _ i _ => s.size - (intOf i).toNat)
  case atStart => exact ⟨1, Nat.le_refl _, h0, rfl, by rw [mid_one]; exact HO1.out, HB1.out, ⟨_, _, _, rfl⟩⟩
  case round =>
    obtain ⟨k, hk1, hk, rfl, hown, hbw, hsh⟩ := hrel
    by_cases hlt : k < s.size
    · have HS := hide (pre_snoc [x] s k hk1 hlt)
      have hb1 : (0 : Int) ≤ (s[k].toNat : Int) := by omega
      have hb2 : (s[k].toNat : Int) < 256 := by have := s[k].toNat_lt; omega
      have hbt2 := and15 s[k]
      have HOW := hide hown
      have HBW := hide hbw
      clear hown hbw
      have b0 : (0 : Int) ≤ (k : Int) := by omega
      have b1 : (k : Int) < (s.size : Int) := by omega
      have k2 : IntKind.i64.wrap ((s[k].toNat : Int) / 16) = (s[k].toNat : Int) / 16 := by rw [IntKind.wrap_i64]; omega
      have k3 : IntKind.i64.wrap ((s[k].toNat : Int) % 16) = (s[k].toNat : Int) % 16 := by rw [IntKind.wrap_i64]; omega
      go_wp2
      go_region_held3 (fun _ => True) (first | trivial | go_keep)
        ((refine step_append_lies _ (by rfl) _ _ _ (by rfl) w.heap.size 3 i0 _ 1 8 Try.underlying48 hi hz0 hz1 hz2 rfl (by omega) u8 (1 + 2 * (k - 1)) _ (by rfl) ((HOW.out.alloc _).drew)
            ⟨wr.heap.size, 0, none⟩ 2 2 [.int .i64 ((s[k].toNat : Int) / 16), .int .i64 ((s[k].toNat : Int) % 16)] (by rfl) (by rfl) (World.news_of_block (cs := #[.int .i64 ((s[k].toNat : Int) / 16), .int .i64 ((s[k].toNat : Int) % 16)]) (t := 3) (fr := (0, 0)) (heap_alloc_new wr _)) (by simp [Value.oneCell'])
            (by omega) (by unfold maxLen; omega) (by omega) (by have := HBW.out.size; simp; omega) (wr.heap.size + 1) (by simp) ?_; intro gg cap2 w3 hown3 hgrow hat3 hlt3))
      all_goals
        have hb3 := ((HBW.out.alloc HBW.out.size _).drew).grown hgrow (by have := HBW.out.size; simp; omega) (own_ge HOW.out (Nat.le_refl _))
        rw [HS.out] at hown3
        have HO3 := hide hown3
        have HB3 := hide hb3
        clear hown3 hb3 hgrow
        go_wp2
        go_roundw
        case rel => exact ⟨k + 1, by omega, by omega, by go_num, by rw [show 1 + 2 * (k + 1 - 1) = 1 + 2 * (k - 1) + 2 from by omega]; exact HO3.out, HB3.out, ⟨_, _, _, rfl⟩⟩
        case measure => simp [intOf]; omega
    · have hke : k = s.size := by omega
      rw [hke, mid_full] at hown
      have HF := hide hown
      have HBW := hide hbw
      clear hown hbw hke
      go_wp2
      go_ret3
      exact ⟨_, rfl, HF.out, HBW.out, hsh.out⟩

set_option maxRecDepth 100000 in
set_option maxHeartbeats 400000 in
theorem pUnpack_g2 (s : ByteArray) (w : World) (h0 : 0 < s.size) (h : s.size ≤ 65) (hm : (s[0].toNat : Int) / 16 = 2) (hx : (s[0].toNat : Int) % 16 = 0) :
    Calls Try.prog 37 #[.string s] w fun e w' => ∃ v, e = .returned (.tuple #[v, .bool true, .int .i64 0]) ∧ w'.ownsRow w.heap.size 3 1 v (0 + 2 * (s.size - 1)) (([] ++ nibs (s.data.toList.drop 1)).map (Value.int .i64)) ∧ Below w.heap.size w w' ∧ ∃ g n c, v = .slice (some ⟨g, 0, none⟩) n c := by
  obtain ⟨i0, hi, hz0, hz1, hz2⟩ := info_parts info3
  obtain ⟨n, M, hn, hM, hmk⟩ : ∃ (n : Nat) (M : Array Value), Hid (n = 2 * s.size) ∧ Hid (M.size = n * 1) ∧ ∀ w : World, (Instr.makeSlice 48 (.int .i64 0) (.int .i64 (2 * (s.size : Int)))).run Try.prog w =
    .ok (.slice (some ⟨w.heap.size, 0, none⟩) 0 n) (w.alloc (.cells M 3)) := ⟨2 * s.size, madeCells #[.int .i64 0] (2 * s.size), rfl, by simp [Hid, madeCells], fun w => by have := make_ints0 (2 * s.size) (by omega) w; simpa using this⟩
  have hown0 := hide (fun m : Nat => World.ownsRow_made (base := w.heap.size) (e := 3) (size := 1) (w.drewN m) M n (Nat.le_refl _) (by unfold maxLen; rw [hn.out]; omega) hM.out)
  have hne := ne_empty h0
  have hb2 : (s[0].toNat : Int) < 256 := by have := s[0].toNat_lt; omega
  have hbt := and15 s[0]
  rw [hx] at hbt
  clear hx
  have p1 : bits BinOp.and IntKind.i64 2 1 = 0 := by decide +kernel
  have p2 : bits BinOp.and IntKind.i64 2 2 = 2 := by decide +kernel
  go_enter Try.func37, Try.ntmps37
  go_wp2
  go_quiet (fail)
  go_wp2
  go_loopw [8, 9] (fun v i wr => ∃ k : Nat, 1 ≤ k ∧ k ≤ s.size ∧ i = .int .i64 (k : Int) ∧ wr.ownsRow w.heap.size 3 1 v (0 + 2 * (k - 1)) (([] ++ nibs (mid s k)).map (Value.int .i64)) ∧ Below w.heap.size w wr ∧ Hid (∃ g n c, v = .slice (some ⟨g, 0, none⟩) n c)) (fun _ i _ => s.size - (intOf i).toNat)
  case atStart => exact ⟨1, Nat.le_refl _, h0, rfl, by rw [mid_one]; exact hown0.out nq, (below_drewN (Below.refl _ w) nq).trans (below_alloc (w.drewN nq) _), ⟨_, _, _, rfl⟩⟩
  case round =>
    obtain ⟨k, hk1, hk, rfl, hown, hbw, hsh⟩ := hrel
    by_cases hlt : k < s.size
    · have HS := hide (pre_snoc [] s k hk1 hlt)
      have hb1 : (0 : Int) ≤ (s[k].toNat : Int) := by omega
      have hb2 : (s[k].toNat : Int) < 256 := by have := s[k].toNat_lt; omega
      have hbt2 := and15 s[k]
      have HOW := hide hown
      have HBW := hide hbw
      clear hown hbw
      have b0 : (0 : Int) ≤ (k : Int) := by omega
      have b1 : (k : Int) < (s.size : Int) := by omega
      have k2 : IntKind.i64.wrap ((s[k].toNat : Int) / 16) = (s[k].toNat : Int) / 16 := by rw [IntKind.wrap_i64]; omega
      have k3 : IntKind.i64.wrap ((s[k].toNat : Int) % 16) = (s[k].toNat : Int) % 16 := by rw [IntKind.wrap_i64]; omega
      go_wp2
      go_region_held3 (fun _ => True) (first | trivial | go_keep)
        ((refine step_append_lies _ (by rfl) _ _ _ (by rfl) w.heap.size 3 i0 _ 1 8 Try.underlying48 hi hz0 hz1 hz2 rfl (by omega) u8 (0 + 2 * (k - 1)) _ (by rfl) ((HOW.out.alloc _).drew)
            ⟨wr.heap.size, 0, none⟩ 2 2 [.int .i64 ((s[k].toNat : Int) / 16), .int .i64 ((s[k].toNat : Int) % 16)] (by rfl) (by rfl) (World.news_of_block (cs := #[.int .i64 ((s[k].toNat : Int) / 16), .int .i64 ((s[k].toNat : Int) % 16)]) (t := 3) (fr := (0, 0)) (heap_alloc_new wr _)) (by simp [Value.oneCell'])
            (by omega) (by unfold maxLen; omega) (by omega) (by have := HBW.out.size; simp; omega) (wr.heap.size + 1) (by simp) ?_; intro gg cap2 w3 hown3 hgrow hat3 hlt3))
      all_goals
        have hb3 := ((HBW.out.alloc HBW.out.size _).drew).grown hgrow (by have := HBW.out.size; simp; omega) (own_ge HOW.out (Nat.le_refl _))
        rw [HS.out] at hown3
        have HO3 := hide hown3
        have HB3 := hide hb3
        clear hown3 hb3 hgrow
        go_wp2
        go_roundw
        case rel => exact ⟨k + 1, by omega, by omega, by go_num, by rw [show 0 + 2 * (k + 1 - 1) = 0 + 2 * (k - 1) + 2 from by omega]; have := HO3.out; simpa only [Nat.zero_add] using this, HB3.out, ⟨_, _, _, rfl⟩⟩
        case measure => simp [intOf]; omega
    · have hke : k = s.size := by omega
      rw [hke, mid_full] at hown
      have HF := hide hown
      have HBW := hide hbw
      clear hown hbw hke
      go_wp2
      go_ret3
      exact ⟨_, rfl, HF.out, HBW.out, hsh.out⟩

set_option maxRecDepth 100000 in
set_option maxHeartbeats 400000 in
theorem pUnpack_g3 (s : ByteArray) (w : World) (h0 : 0 < s.size) (h : s.size ≤ 64) (x : Int) (hm : (s[0].toNat : Int) / 16 = 3) (hx : (s[0].toNat : Int) % 16 = x) :
    Calls Try.prog 37 #[.string s] w fun e w' => ∃ v, e = .returned (.tuple #[v, .bool true, .int .i64 0]) ∧ w'.ownsRow w.heap.size 3 1 v (1 + 2 * (s.size - 1)) (([x] ++ nibs (s.data.toList.drop 1)).map (Value.int .i64)) ∧ Below w.heap.size w w' ∧ ∃ g n c, v = .slice (some ⟨g, 0, none⟩) n c := by
  obtain ⟨i0, hi, hz0, hz1, hz2⟩ := info_parts info3
  obtain ⟨n, M, hn, hM, hmk⟩ : ∃ (n : Nat) (M : Array Value), Hid (n = 2 * s.size) ∧ Hid (M.size = n * 1) ∧ ∀ w : World, (Instr.makeSlice 48 (.int .i64 0) (.int .i64 (2 * (s.size : Int)))).run Try.prog w =
    .ok (.slice (some ⟨w.heap.size, 0, none⟩) 0 n) (w.alloc (.cells M 3)) := ⟨2 * s.size, madeCells #[.int .i64 0] (2 * s.size), rfl, by simp [Hid, madeCells], fun w => by have := make_ints0 (2 * s.size) (by omega) w; simpa using this⟩
  have hown0 := hide (fun m : Nat => World.ownsRow_made (base := w.heap.size) (e := 3) (size := 1) (w.drewN m) M n (Nat.le_refl _) (by unfold maxLen; rw [hn.out]; omega) hM.out)
  have hne := ne_empty h0
  have hb2 : (s[0].toNat : Int) < 256 := by have := s[0].toNat_lt; omega
  have hbt := and15 s[0]
  rw [hx] at hbt
  have x1 : 0 ≤ x := by omega
  have x2 : x ≤ 15 := by omega
  clear hx
  have p1 : bits BinOp.and IntKind.i64 3 1 = 1 := by decide +kernel
  have p2 : bits BinOp.and IntKind.i64 3 2 = 2 := by decide +kernel
  go_enter Try.func37, Try.ntmps37
  go_wp2
  go_quiet (fail)
  go_wp2_with (at_builtin; go_must (refine wpList_append_lies _ rfl (.tmp 51) (.tmp 53) 48 rfl w.heap.size 3 i0 (.int .i64 0) 1 8 Try.underlying48 hi hz0 hz1 hz2 rfl (by decide) _ 0 [] rfl ((hown0.out nq).alloc _) ⟨w.heap.size + 1, 0, none⟩ 1 1 [.int .i64 x] rfl rfl ?cn (by simp [Value.oneCell']) (by omega) (by unfold maxLen; omega) (by omega) (by simp <;> omega) _ rfl ?_))
  case cn => exact fun j u hu => by simpa using news_of ((w.drewN nq).alloc (.cells M 3)) [.int .i64 x] j u hu
  intro g c w1 hown1 hgrow1 hat1 hlt1
  have hb1 : Below w.heap.size w w1 := ((below_drewN (Below.refl _ w) nq).trans (below_alloc2 (w.drewN nq) _ _)).grown hgrow1 (by simp <;> omega) (row_ge (Nat.le_refl _))
  have HO1 := hide hown1
  have HB1 := hide hb1
  clear hown1 hb1 hgrow1 hat1 hlt1
  go_wp2
  go_loopw [8, 9] (fun v i wr => ∃ k : Nat, 1 ≤ k ∧ k ≤ s.size ∧ i = .int .i64 (k : Int) ∧ wr.ownsRow w.heap.size 3 1 v (1 + 2 * (k - 1)) (([x] ++ nibs (mid s k)).map (Value.int .i64)) ∧ Below w.heap.size w wr ∧ Hid (∃ g n c, v = .slice (some ⟨g, 0, none⟩) n c)) (fun _ i _ => s.size - (intOf i).toNat)
  case atStart => exact ⟨1, Nat.le_refl _, h0, rfl, by rw [mid_one]; exact HO1.out, HB1.out, ⟨_, _, _, rfl⟩⟩
  case round =>
    obtain ⟨k, hk1, hk, rfl, hown, hbw, hsh⟩ := hrel
    by_cases hlt : k < s.size
    · have HS := hide (pre_snoc [x] s k hk1 hlt)
      have hb1 : (0 : Int) ≤ (s[k].toNat : Int) := by omega
      have hb2 : (s[k].toNat : Int) < 256 := by have := s[k].toNat_lt; omega
      have hbt2 := and15 s[k]
      have HOW := hide hown
      have HBW := hide hbw
      clear hown hbw
      have b0 : (0 : Int) ≤ (k : Int) := by omega
      have b1 : (k : Int) < (s.size : Int) := by omega
      have k2 : IntKind.i64.wrap ((s[k].toNat : Int) / 16) = (s[k].toNat : Int) / 16 := by rw [IntKind.wrap_i64]; omega
      have k3 : IntKind.i64.wrap ((s[k].toNat : Int) % 16) = (s[k].toNat : Int) % 16 := by rw [IntKind.wrap_i64]; omega
      go_wp2
      go_region_held3 (fun _ => True) (first | trivial | go_keep)
        ((refine step_append_lies _ (by rfl) _ _ _ (by rfl) w.heap.size 3 i0 _ 1 8 Try.underlying48 hi hz0 hz1 hz2 rfl (by omega) u8 (1 + 2 * (k - 1)) _ (by rfl) ((HOW.out.alloc _).drew)
            ⟨wr.heap.size, 0, none⟩ 2 2 [.int .i64 ((s[k].toNat : Int) / 16), .int .i64 ((s[k].toNat : Int) % 16)] (by rfl) (by rfl) (World.news_of_block (cs := #[.int .i64 ((s[k].toNat : Int) / 16), .int .i64 ((s[k].toNat : Int) % 16)]) (t := 3) (fr := (0, 0)) (heap_alloc_new wr _)) (by simp [Value.oneCell'])
            (by omega) (by unfold maxLen; omega) (by omega) (by have := HBW.out.size; simp; omega) (wr.heap.size + 1) (by simp) ?_; intro gg cap2 w3 hown3 hgrow hat3 hlt3))
      all_goals
        have hb3 := ((HBW.out.alloc HBW.out.size _).drew).grown hgrow (by have := HBW.out.size; simp; omega) (own_ge HOW.out (Nat.le_refl _))
        rw [HS.out] at hown3
        have HO3 := hide hown3
        have HB3 := hide hb3
        clear hown3 hb3 hgrow
        go_wp2
        go_roundw
        case rel => exact ⟨k + 1, by omega, by omega, by go_num, by rw [show 1 + 2 * (k + 1 - 1) = 1 + 2 * (k - 1) + 2 from by omega]; exact HO3.out, HB3.out, ⟨_, _, _, rfl⟩⟩
        case measure => simp [intOf]; omega
    · have hke : k = s.size := by omega
      rw [hke, mid_full] at hown
      have HF := hide hown
      have HBW := hide hbw
      clear hown hbw hke
      go_wp2
      go_ret3
      exact ⟨_, rfl, HF.out, HBW.out, hsh.out⟩

end Go.Proofs.Ytcmgmhkddgjinaa
