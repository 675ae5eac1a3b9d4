/-
  OUR OWN: VxItemC VxItemB.
-/
import Derived.Test.YthdjmldddjljfaaGreatDoorG15
import Derived.Lib.Strings
import Derived.Lib.Walk
import Derived.Lib.BufferWrite
import Derived.Lib.UnsafeStr
namespace Go.Proofs.YthdjmldddjljfaaGreatDoor.V
open Go.RowKit
attribute [local go_sem ↓] Go.wp_at_zero Go.wp_at_succ

theorem empty_of_size {s : ByteArray} (h : s.size = 0) : s = ⟨#[]⟩ := ByteArray.ext (Array.eq_empty_of_size_eq_zero h)

set_option maxHeartbeats 2000000 in
set_option maxRecDepth 20000 in
theorem liteClone_any (s : ByteArray) (w : World) (hs : s.size ≤ 281474976710656) :
    Calls Tryz.prog 82 #[.string s] w fun e w' => e = .returned (.string s) ∧ Below w.heap.size w w' := by
  by_cases h0 : s.size = 0
  · have h1 := empty_of_size h0
    subst h1
    go_enter Tryz.func82, Tryz.ntmps82
    go_wp2
    go_ret
    exact ⟨rfl, Below.refl _ _⟩
  · obtain ⟨i0, hi, hz0, hz1, hz2⟩ := info_parts info5
    have hinfo : (Tryz.prog.info? 5).map (·.size) = some 1 := by rw [hi]; simp [hz1]
    have hco : Tryz.prog.cellsOf 5 = 1 := by simp [Program.cellsOf, hi, hz1]
    have hmk := make_bytes s.size hs
    obtain ⟨M, hM⟩ : ∃ M, M = madeCells #[.int .u8 0] s.size := ⟨_, rfl⟩
    have hMs : M.size = s.size := by rw [hM, size_madeCells]
    rw [← hM] at hmk
    have hcp := Lib.run_copy_row_string (P := Tryz.prog) (w.alloc (.cells M 5)) 144 9 3 5 w.heap.size 0 s.size s.size s M 5 Tryz.underlying144 hinfo (heap_alloc_new w _) (Nat.le_refl _) (by omega)
    obtain ⟨Y, hY⟩ : ∃ Y, Y = (M.toList.take 0 ++ Lib.byteCells s.data.toList ++ M.toList.drop (0 + s.size)).toArray := ⟨_, rfl⟩
    rw [← hY] at hcp
    have hYl : Y.toList = Lib.byteCells s.data.toList := by
      rw [hY, List.toList_toArray, List.take_zero, List.nil_append, List.drop_of_length_le (by rw [Array.length_toList]; omega), List.append_nil]
    have hYs : Y.size = s.size := by rw [← Array.length_toList, hYl, Lib.byteCells_length, ← Lib.size_eq]
    have hgY : ((w.alloc (.cells M 5)).setRow w.heap.size Y).heap[w.heap.size]? = some (.cells Y 5 (0, 0)) := setRow_heap _ _ M _ 5 (0, 0) (heap_alloc_new w _)
    have hne : s.data.toList ≠ [] := fun e => h0 (by rw [Lib.size_eq, e]; rfl)
    have hUS := Lib.run_unsafeString_row (P := Tryz.prog) ((w.alloc (.cells M 5)).setRow w.heap.size Y) 200 3 9 5 Tryz.underlying200 hco w.heap.size Y.size (by unfold World.shape?; rw [hgY]) s.data.toList hne (by rw [← Lib.size_eq]; omega) (by rw [← Lib.size_eq]; omega)
      (fun j x hx => Lib.cells_of_row hgY Y.size j _ (by rw [List.take_of_length_le (by rw [Array.length_toList]; exact Nat.le_refl _), hYl]; simp [Lib.byteCells, hx]))
    rw [← Lib.size_eq] at hUS
    clear hY hM
    go_enter Tryz.func82, Tryz.ntmps82
    go_wp2
    go_ret
    have hb1 : Below w.heap.size w (w.alloc (.cells M 5)) := below_alloc _ _
    have hb2 : Below w.heap.size (w.alloc (.cells M 5)) ((w.alloc (.cells M 5)).setRow w.heap.size Y) := ⟨rfl, rfl, rfl, by simp, fun k hk => setRow_other _ _ _ _ (by omega)⟩
    exact ⟨rfl, Lib.below_freeze (hb1.trans hb2) (p := ⟨w.heap.size, 0, none⟩) (Nat.le_refl _) _⟩
theorem clone_any (s : ByteArray) (w : World) (hs : s.size ≤ 281474976710656) :
    Calls Tryz.prog 46 #[.string s] w fun e w' => e = .returned (.string s) ∧ Below w.heap.size w w' := by
  have HS := hide hs
  clear hs
  go_enter Tryz.func46, Tryz.ntmps46
  go_wp2_with fail
  refine (liteClone_any s w HS.out).mono ?_
  rintro e w1 ⟨rfl, hb⟩
  go_wp2
  go_ret
  exact ⟨rfl, hb⟩

/-- one byte below 128? -/
def ownC (s : ByteArray) : Bool := decide (s.size = 1) && decide (byteN s 0 < 128)
set_option maxRecDepth 20000 in
theorem isOwnCode_any (s : ByteArray) (w : World) (_hs : s.size ≤ 281474976710656) :
    Calls Tryz.prog 115 #[.string s] w fun e w' => e = .returned (.bool (ownC s)) ∧ w' = w := by
  by_cases h1 : s.size = 1
  · have h0 : 0 < s.size := by omega
    have HB := hide (byteN_eq s 0 h0)
    have e1 : (s.size : Int) = 1 := by omega
    have HE : Hid (ownC s = decide ((s[0].toNat : Int) < 128)) := by show _ = _; unfold ownC; rw [HB.out]; simp [h1]; omega
    go_enter Tryz.func115, Tryz.ntmps115
    go_wp2
    go_ret
    exact ⟨by rw [HE.out]; rfl, rfl⟩
  · have HE : Hid (ownC s = false) := by show _ = _; simp [ownC, h1]
    have e1 : ((s.size : Int) == 1) = false := by simp; omega
    go_enter Tryz.func115, Tryz.ntmps115
    go_wp2
    go_ret
    exact ⟨by rw [HE.out]; rfl, rfl⟩
end Go.Proofs.YthdjmldddjljfaaGreatDoor.V
namespace Go.Proofs.YthdjmldddjljfaaGreatDoor.V
open Go.RowKit
attribute [local go_sem ↓] Go.wp_at_zero Go.wp_at_succ

/-- behind the first byte, of which z is told: where the bytes begin and end -/
def spanN (s : ByteArray) (a z limit : Nat) : (Nat × Nat) × Int :=
  if z ≤ 55 then (if limit < a + 1 + z then ((0, 0), 3) else ((a + 1, a + 1 + z), 0))
  else if (lenN s (a + 1) (z - 55) limit).2 ≠ 0 then ((0, 0), (lenN s (a + 1) (z - 55) limit).2)
  else if (limit : Int) < ((a + 1 + (z - 55) : Nat) : Int) + (lenN s (a + 1) (z - 55) limit).1 then ((0, 0), 3)
  else ((a + 1 + (z - 55), a + 1 + (z - 55) + (lenN s (a + 1) (z - 55) limit).1.toNat), 0)

def hd (l : Bool) (x y : Nat) : Value := .agg #[.bool l, .int .i64 (x : Int), .int .i64 (y : Int)]

set_option maxHeartbeats 1000000 in
theorem readHead_short (s : ByteArray) (a limit : Nat) (w : World) (ha : limit ≤ a) :
    Calls Tryz.prog 173 #[.string s, .int .i64 (a : Int), .int .i64 (limit : Int)] w fun e w' => e = .returned (.tuple #[hd false 0 0, .int .i64 3]) ∧ Below w.heap.size w w' := by
  go_enter Tryz.func173, Tryz.ntmps173
  go_wp2
  refine bodyPost_ret (v := .tuple #[hd false 0 0, .int .i64 3]) (by simp [results, Tryz.results173, go_sem, hd]) rfl ⟨rfl, ?_⟩
  exact (Below.refl _ _).alloc (Nat.le_refl _) _
set_option maxHeartbeats 1000000 in
set_option maxRecDepth 20000 in
theorem readHead_own (s : ByteArray) (a limit : Nat) (w : World) (hl : limit ≤ s.size) (hs : s.size ≤ 6000) (ha : a < limit) (hb : byteN s a < 128) :
    Calls Tryz.prog 173 #[.string s, .int .i64 (a : Int), .int .i64 (limit : Int)] w fun e w' => e = .returned (.tuple #[hd false a (a + 1), .int .i64 0]) ∧ Below w.heap.size w w' := by
  have h2 : a < s.size := by omega
  have HB := hide (byteN_eq s a h2)
  have h3 : (s[a].toNat : Int) < 128 := by rw [HB.out]; omega
  have h4 : (0 : Int) ≤ (s[a].toNat : Int) := by omega
  have b0 : (0 : Int) ≤ (a : Int) := by omega
  have b1 : (a : Int) < (limit : Int) := by omega
  have b2 : (a : Int) < (s.size : Int) := by omega
  have k1 : IntKind.i64.wrap (s[a].toNat : Int) = (s[a].toNat : Int) := by rw [IntKind.wrap_i64]; omega
  clear hb
  go_enter Tryz.func173, Tryz.ntmps173
  go_wp2
  refine bodyPost_ret (v := .tuple #[hd false a (a + 1), .int .i64 0]) (by simp [results, Tryz.results173, go_sem, hd]) rfl ⟨rfl, ?_⟩
  exact (Below.refl _ _).alloc (Nat.le_refl _) _

theorem lenN_cases (s : ByteArray) (a k limit : Nat) : ((lenN s a k limit).1 = 0 ∧ ((lenN s a k limit).2 = 3 ∨ (lenN s a k limit).2 = 4)) ∨ ∃ L : Nat, L ≤ 6001 ∧ 55 < L ∧ lenN s a k limit = ((L : Int), 0) := by
  unfold lenN
  split
  · exact .inl ⟨rfl, .inl rfl⟩
  · split
    · exact .inl ⟨rfl, .inr rfl⟩
    · split
      · exact .inl ⟨rfl, .inr rfl⟩
      · exact .inr ⟨min (numN s a k) 6001, Nat.min_le_right _ _, by omega, rfl⟩

/-- as spanN, for bytes: one byte that is its own code has no head -/
def headT (s : ByteArray) (a z limit : Nat) : (Nat × Nat) × Int :=
  if (spanN s a z limit).2 ≠ 0 then spanN s a z limit
  else if ownC (s.extract (spanN s a z limit).1.1 (spanN s a z limit).1.2) then ((0, 0), 4) else spanN s a z limit
theorem headT_bad {s : ByteArray} {a z limit : Nat} {p : Nat × Nat} {er : Int} (h : spanN s a z limit = (p, er)) (he : er ≠ 0) : headT s a z limit = (p, er) := by
  unfold headT; rw [h, if_pos he]
theorem headT_own {s : ByteArray} {a z limit st en : Nat} (h : spanN s a z limit = ((st, en), 0)) (ho : ownC (s.extract st en) = true) : headT s a z limit = ((0, 0), 4) := by
  unfold headT; rw [h, if_neg (by simp), if_pos ho]
theorem headT_good {s : ByteArray} {a z limit st en : Nat} (h : spanN s a z limit = ((st, en), 0)) (ho : ownC (s.extract st en) = false) : headT s a z limit = ((st, en), 0) := by
  unfold headT; rw [h, if_neg (by simp), if_neg (by simp [ho])]
theorem ext_size (s : ByteArray) (a b : Nat) (h : a ≤ b) (hb : b ≤ s.size) : (s.extract a b).size = b - a := by simp [ByteArray.size_extract]; omega

set_option maxHeartbeats 6000000 in
set_option maxRecDepth 20000 in
theorem readHead_text (s : ByteArray) (a z limit : Nat) (w : World) (hl : limit ≤ s.size) (hs : s.size ≤ 6000) (ha : a < limit) (hb : byteN s a = 128 + z) (hz : z ≤ 63) :
    Calls Tryz.prog 173 #[.string s, .int .i64 (a : Int), .int .i64 (limit : Int)] w fun e w' => e = .returned (.tuple #[hd false (headT s a z limit).1.1 (headT s a z limit).1.2, .int .i64 (headT s a z limit).2]) ∧ Below w.heap.size w w' := by
  have h2 : a < s.size := by omega
  have HB := hide (byteN_eq s a h2)
  have h3 : (s[a].toNat : Int) = 128 + (z : Int) := by rw [HB.out]; omega
  have b0 : (0 : Int) ≤ (a : Int) := by omega
  have b1 : (a : Int) < (limit : Int) := by omega
  have b2 : (a : Int) < (s.size : Int) := by omega
  have b3 : (limit : Int) ≤ 6000 := by omega
  have b4 : (z : Int) ≤ 63 := by omega
  have b5 : (0 : Int) ≤ (z : Int) := by omega
  have HL := hide (And.intro hl hs)
  clear hb hl hs
  by_cases hz5 : z ≤ 55
  · by_cases hlim : limit < a + 1 + z
    · have HE : Hid (spanN s a z limit = ((0, 0), 3)) := by show _ = _; simp [spanN, hz5, hlim]
      have c1 : (z : Int) ≤ 55 := by omega
      have c2 : (limit : Int) - ((a : Int) + 1) < (z : Int) := by omega
      clear hlim hz5
      rw [headT_bad HE.out (by decide)]
      go_enter Tryz.func173, Tryz.ntmps173
      go_wp2
      refine bodyPost_ret (v := .tuple #[hd false 0 0, .int .i64 3]) (by simp [results, Tryz.results173, go_sem, hd]) rfl ⟨rfl, ?_⟩
      exact below_alloc2 _ _ _
    · have HE : Hid (spanN s a z limit = ((a + 1, a + 1 + z), 0)) := by show _ = _; simp [spanN, hz5, hlim]
      have c1 : (z : Int) ≤ 55 := by omega
      have c2 : (z : Int) ≤ (limit : Int) - ((a : Int) + 1) := by omega
      have HZ := hide (ext_size s (a + 1) (a + 1 + z) (by omega) (by have := HL.out; omega))
      have HK : Hid ((a + 1 : Nat) + z ≤ 6000) := by have := HL.out; show _ ≤ _; omega
      clear hlim hz5
      have d0 : decide ((192 : Int) ≤ 128 + (z : Int)) = false := by simp; omega
      have d1 : (a : Int) + 1 + (z : Int) ≤ (s.size : Int) := by have := HL.out; omega
      have d2 : ((a : Int) + 1).toNat = a + 1 := by omega
      have d3 : ((a : Int) + 1 + (z : Int)).toNat = a + 1 + z := by omega
      cases hown : ownC (s.extract (a + 1) (a + 1 + z)) with
      | true =>
        rw [headT_own HE.out hown]
        have HO := hide hown
        clear hown HE
        go_enter Tryz.func173, Tryz.ntmps173
        go_wp2_with fail
        refine (isOwnCode_any _ _ (by have := HZ.out; have := HK.out; omega)).mono ?_
        rintro e w1 ⟨rfl, rfl⟩
        rw [HO.out]
        go_wp2
        refine bodyPost_ret (v := .tuple #[hd false 0 0, .int .i64 4]) (by simp [results, Tryz.results173, go_sem, hd]) rfl ⟨rfl, ?_⟩
        exact below_alloc2 _ _ _
      | false =>
        rw [headT_good HE.out hown]
        have HO := hide hown
        clear hown HE
        go_enter Tryz.func173, Tryz.ntmps173
        go_wp2_with fail
        refine (isOwnCode_any _ _ (by have := HZ.out; have := HK.out; omega)).mono ?_
        rintro e w1 ⟨rfl, rfl⟩
        rw [HO.out]
        go_wp2
        refine bodyPost_ret (v := .tuple #[hd false (a + 1) (a + 1 + z), .int .i64 0]) (by simp [results, Tryz.results173, go_sem, hd]; omega) rfl ⟨rfl, ?_⟩
        exact below_alloc2 _ _ _
  · have HR : Hid (∀ W, Calls Tryz.prog 186 #[.string s, .int .i64 ((a : Int) + 1), .int .i64 (128 + (z : Int) - 128 - 55), .int .i64 (limit : Int)] W fun e w' => e = .returned (.tuple #[.int .i64 (lenN s (a + 1) (z - 55) limit).1, .int .i64 (lenN s (a + 1) (z - 55) limit).2]) ∧ ∃ n, w' = W.drewN n) := by
      intro W
      have := readLength_any s (a + 1) (z - 55) limit W HL.out.1 HL.out.2 ha (by omega) (by omega)
      rwa [show ((z - 55 : Nat) : Int) = 128 + (z : Int) - 128 - 55 from by omega, show ((a + 1 : Nat) : Int) = (a : Int) + 1 from by omega] at this
    have c1 : 55 < (z : Int) := by omega
    have HS : Hid (spanN s a z limit = if (lenN s (a + 1) (z - 55) limit).2 ≠ 0 then ((0, 0), (lenN s (a + 1) (z - 55) limit).2) else if (limit : Int) < ((a + 1 + (z - 55) : Nat) : Int) + (lenN s (a + 1) (z - 55) limit).1 then ((0, 0), 3)
      else ((a + 1 + (z - 55), a + 1 + (z - 55) + (lenN s (a + 1) (z - 55) limit).1.toNat), 0)) := by show _ = _; rw [spanN, if_neg hz5]
    rcases lenN_cases s (a + 1) (z - 55) limit with ⟨q1, q2⟩ | ⟨L, q1, q2, q3⟩
    · have HE : Hid (spanN s a z limit = ((0, 0), (lenN s (a + 1) (z - 55) limit).2)) := by show _ = _; rw [HS.out, if_pos (by rcases q2 with e | e <;> rw [e] <;> decide)]
      have HR2 := HR.out
      rw [q1] at HR2
      rw [headT_bad HE.out (by rcases q2 with e | e <;> rw [e] <;> decide)]
      generalize (lenN s (a + 1) (z - 55) limit).2 = er at *
      have HR3 := hide HR2
      clear HR2 HR HE HS hz5
      go_enter Tryz.func173, Tryz.ntmps173
      go_wp2_with fail
      refine (HR3.out _).mono ?_
      rintro e w1 ⟨rfl, n1, rfl⟩
      rcases q2 with rfl | rfl
      all_goals
        go_wp2
        refine bodyPost_ret (v := .tuple #[hd false 0 0, _]) (by simp [results, Tryz.results173, go_sem, hd]) rfl ⟨rfl, ?_⟩
        exact (((below_drewN (below_alloc2 _ _ _) _).setCell (Nat.le_refl _) _).setCell (Nat.le_refl _) _).setCell (Nat.le_refl _) _
    · rw [q3] at HS HR
      have HR3 := hide HR.out
      by_cases hlim : limit < a + 1 + (z - 55) + L
      · have HE : Hid (spanN s a z limit = ((0, 0), 3)) := by show _ = _; rw [HS.out, if_neg (by simp), if_pos (by show (limit : Int) < _ + (L : Int); omega)]
        rw [headT_bad HE.out (by decide)]
        have c2 : (limit : Int) - ((a : Int) + 1 + (128 + (z : Int) - 128 - 55)) < (L : Int) := by omega
        have c3 : (L : Int) ≤ 6001 := by omega
        clear HR HE HS hz5 hlim q3 q1
        go_enter Tryz.func173, Tryz.ntmps173
        go_wp2_with fail
        refine (HR3.out _).mono ?_
        rintro e w1 ⟨rfl, n1, rfl⟩
        go_wp2
        refine bodyPost_ret (v := .tuple #[hd false 0 0, .int .i64 3]) (by simp [results, Tryz.results173, go_sem, hd]) rfl ⟨rfl, ?_⟩
        exact ((((below_drewN (below_alloc2 _ _ _) _).setCell (Nat.le_succ _) _).setCell (Nat.le_refl _) _).setCell (Nat.le_refl _) _).setCell (Nat.le_refl _) _
      · have HE : Hid (spanN s a z limit = ((a + 1 + (z - 55), a + 1 + (z - 55) + L), 0)) := by show _ = _; rw [HS.out, if_neg (by simp), if_neg (by show ¬ (limit : Int) < _ + (L : Int); omega)]; rfl
        have HZ := hide (ext_size s (a + 1 + (z - 55)) (a + 1 + (z - 55) + L) (by omega) (by have := HL.out; omega))
        have HO : Hid (ownC (s.extract (a + 1 + (z - 55)) (a + 1 + (z - 55) + L)) = false) := by show _ = _; unfold ownC; rw [HZ.out]; simp; omega
        rw [headT_good HE.out HO.out]
        have HK : Hid (a + 1 + (z - 55) + L ≤ 6000) := by have := HL.out; show _ ≤ _; omega
        have c2 : (L : Int) ≤ (limit : Int) - ((a : Int) + 1 + (128 + (z : Int) - 128 - 55)) := by omega
        have c3 : (L : Int) ≤ 6001 := by omega
        have d0 : decide ((192 : Int) ≤ 128 + (z : Int)) = false := by simp; omega
        have d1 : (a : Int) + 1 + (128 + (z : Int) - 128 - 55) + (L : Int) ≤ (s.size : Int) := by have := HL.out; omega
        have d2 : ((a : Int) + 1 + (128 + (z : Int) - 128 - 55)).toNat = a + 1 + (z - 55) := by omega
        have d3 : ((a : Int) + 1 + (128 + (z : Int) - 128 - 55) + (L : Int)).toNat = a + 1 + (z - 55) + L := by omega
        clear HR HE HS hlim q3 q1
        go_enter Tryz.func173, Tryz.ntmps173
        go_wp2_with fail
        refine (HR3.out _).mono ?_
        rintro e w1 ⟨rfl, n1, rfl⟩
        go_wp2_with fail
        refine (isOwnCode_any _ _ (by have := HZ.out; have := HK.out; omega)).mono ?_
        rintro e w1 ⟨rfl, rfl⟩
        rw [HO.out]
        go_wp2
        refine bodyPost_ret (v := .tuple #[hd false (a + 1 + (z - 55)) (a + 1 + (z - 55) + L), .int .i64 0]) (by simp [results, Tryz.results173, go_sem, hd]; omega) rfl ⟨rfl, ?_⟩
        exact (((((below_drewN (below_alloc2 _ _ _) _).setCell (Nat.le_succ _) _).setCell (Nat.le_succ _) _).setCell (Nat.le_refl _) _).setCell (Nat.le_refl _) _).setCell (Nat.le_refl _) _

set_option maxHeartbeats 2000000 in
set_option maxRecDepth 20000 in
theorem readHead_list (s : ByteArray) (a z limit : Nat) (w : World) (hl : limit ≤ s.size) (hs : s.size ≤ 6000) (ha : a < limit) (hb : byteN s a = 192 + z) (hz : z ≤ 63) :
    Calls Tryz.prog 173 #[.string s, .int .i64 (a : Int), .int .i64 (limit : Int)] w fun e w' => e = .returned (.tuple #[hd (decide ((spanN s a z limit).2 = 0) && true) (spanN s a z limit).1.1 (spanN s a z limit).1.2, .int .i64 (spanN s a z limit).2]) ∧ Below w.heap.size w w' := by
  have h2 : a < s.size := by omega
  have HB := hide (byteN_eq s a h2)
  have h3 : (s[a].toNat : Int) = 192 + (z : Int) := by rw [HB.out]; omega
  have b0 : (0 : Int) ≤ (a : Int) := by omega
  have b1 : (a : Int) < (limit : Int) := by omega
  have b2 : (a : Int) < (s.size : Int) := by omega
  have b3 : (limit : Int) ≤ 6000 := by omega
  have b4 : (z : Int) ≤ 63 := by omega
  have b5 : (0 : Int) ≤ (z : Int) := by omega
  have HL := hide (And.intro hl hs)
  clear hb hl hs
  by_cases hz5 : z ≤ 55
  · by_cases hlim : limit < a + 1 + z
    · have HE : Hid (spanN s a z limit = ((0, 0), 3)) := by show _ = _; simp [spanN, hz5, hlim]
      have c1 : (z : Int) ≤ 55 := by omega
      have c2 : (limit : Int) - ((a : Int) + 1) < (z : Int) := by omega
      clear hlim hz5
      go_enter Tryz.func173, Tryz.ntmps173
      go_wp2
      rw [HE.out]
      refine bodyPost_ret (v := .tuple #[hd false 0 0, .int .i64 3]) (by simp [results, Tryz.results173, go_sem, hd]) rfl ⟨rfl, ?_⟩
      exact below_alloc2 _ _ _
    · have HE : Hid (spanN s a z limit = ((a + 1, a + 1 + z), 0)) := by show _ = _; simp [spanN, hz5, hlim]
      have c1 : (z : Int) ≤ 55 := by omega
      have c2 : (z : Int) ≤ (limit : Int) - ((a : Int) + 1) := by omega
      clear hlim hz5
      go_enter Tryz.func173, Tryz.ntmps173
      go_wp2
      rw [HE.out]
      refine bodyPost_ret (v := .tuple #[hd true (a + 1) (a + 1 + z), .int .i64 0]) (by simp [results, Tryz.results173, go_sem, hd]; omega) rfl ⟨rfl, ?_⟩
      exact below_alloc2 _ _ _
  · have HR : Hid (∀ W, Calls Tryz.prog 186 #[.string s, .int .i64 ((a : Int) + 1), .int .i64 (192 + (z : Int) - 192 - 55), .int .i64 (limit : Int)] W fun e w' => e = .returned (.tuple #[.int .i64 (lenN s (a + 1) (z - 55) limit).1, .int .i64 (lenN s (a + 1) (z - 55) limit).2]) ∧ ∃ n, w' = W.drewN n) := by
      intro W
      have := readLength_any s (a + 1) (z - 55) limit W HL.out.1 HL.out.2 ha (by omega) (by omega)
      rwa [show ((z - 55 : Nat) : Int) = 192 + (z : Int) - 192 - 55 from by omega, show ((a + 1 : Nat) : Int) = (a : Int) + 1 from by omega] at this
    have c1 : 55 < (z : Int) := by omega
    have HS : Hid (spanN s a z limit = if (lenN s (a + 1) (z - 55) limit).2 ≠ 0 then ((0, 0), (lenN s (a + 1) (z - 55) limit).2) else if (limit : Int) < ((a + 1 + (z - 55) : Nat) : Int) + (lenN s (a + 1) (z - 55) limit).1 then ((0, 0), 3)
      else ((a + 1 + (z - 55), a + 1 + (z - 55) + (lenN s (a + 1) (z - 55) limit).1.toNat), 0)) := by show _ = _; rw [spanN, if_neg hz5]
    rcases lenN_cases s (a + 1) (z - 55) limit with ⟨q1, q2⟩ | ⟨L, q1, q2, q3⟩
    · have HE : Hid (spanN s a z limit = ((0, 0), (lenN s (a + 1) (z - 55) limit).2)) := by show _ = _; rw [HS.out, if_pos (by rcases q2 with e | e <;> rw [e] <;> decide)]
      have HR2 := HR.out
      rw [q1] at HR2
      rw [HE.out]
      generalize (lenN s (a + 1) (z - 55) limit).2 = er at *
      have HR3 := hide HR2
      clear HR2 HR HE HS hz5
      go_enter Tryz.func173, Tryz.ntmps173
      go_wp2_with fail
      refine (HR3.out _).mono ?_
      rintro e w1 ⟨rfl, n1, rfl⟩
      rcases q2 with rfl | rfl
      all_goals
        go_wp2
        refine bodyPost_ret (v := .tuple #[hd false 0 0, _]) (by simp [results, Tryz.results173, go_sem, hd]) rfl ⟨rfl, ?_⟩
        exact (((below_drewN (below_alloc2 _ _ _) _).setCell (Nat.le_refl _) _).setCell (Nat.le_refl _) _).setCell (Nat.le_refl _) _
    · rw [q3] at HS HR
      have HR3 := hide HR.out
      by_cases hlim : limit < a + 1 + (z - 55) + L
      · have HE : Hid (spanN s a z limit = ((0, 0), 3)) := by show _ = _; rw [HS.out, if_neg (by simp), if_pos (by show (limit : Int) < _ + (L : Int); omega)]
        rw [HE.out]
        have c2 : (limit : Int) - ((a : Int) + 1 + (192 + (z : Int) - 192 - 55)) < (L : Int) := by omega
        have c3 : (L : Int) ≤ 6001 := by omega
        clear HR HE HS hz5 hlim q3 q1
        go_enter Tryz.func173, Tryz.ntmps173
        go_wp2_with fail
        refine (HR3.out _).mono ?_
        rintro e w1 ⟨rfl, n1, rfl⟩
        go_wp2
        refine bodyPost_ret (v := .tuple #[hd false 0 0, .int .i64 3]) (by simp [results, Tryz.results173, go_sem, hd]) rfl ⟨rfl, ?_⟩
        exact ((((below_drewN (below_alloc2 _ _ _) _).setCell (Nat.le_succ _) _).setCell (Nat.le_refl _) _).setCell (Nat.le_refl _) _).setCell (Nat.le_refl _) _
      · have HE : Hid (spanN s a z limit = ((a + 1 + (z - 55), a + 1 + (z - 55) + L), 0)) := by show _ = _; rw [HS.out, if_neg (by simp), if_neg (by show ¬ (limit : Int) < _ + (L : Int); omega)]; rfl
        rw [HE.out]
        have c2 : (L : Int) ≤ (limit : Int) - ((a : Int) + 1 + (192 + (z : Int) - 192 - 55)) := by omega
        have c3 : (L : Int) ≤ 6001 := by omega
        clear HR HE HS hlim q3 q1
        go_enter Tryz.func173, Tryz.ntmps173
        go_wp2_with fail
        refine (HR3.out _).mono ?_
        rintro e w1 ⟨rfl, n1, rfl⟩
        go_wp2
        refine bodyPost_ret (v := .tuple #[hd true (a + 1 + (z - 55)) (a + 1 + (z - 55) + L), .int .i64 0]) (by simp [results, Tryz.results173, go_sem, hd]; omega) rfl ⟨rfl, ?_⟩
        exact (((((below_drewN (below_alloc2 _ _ _) _).setCell (Nat.le_succ _) _).setCell (Nat.le_succ _) _).setCell (Nat.le_refl _) _).setCell (Nat.le_refl _) _).setCell (Nat.le_refl _) _
end Go.Proofs.YthdjmldddjljfaaGreatDoor.V
