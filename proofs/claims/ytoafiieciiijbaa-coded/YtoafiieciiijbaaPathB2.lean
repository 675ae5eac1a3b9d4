/-
  OUR OWN: of PathB: what only some programs have.
-/
import Derived.Test.YtoafiieciiijbaaPathB
import Derived.Test.YtoafiieciiijbaaPathA2
namespace Go.Proofs.Ytoafiieciiijbaa
open Go.RowKit

set_option maxHeartbeats 400000 in
theorem joined_any (ao : Option Addr) (cap n : Nat) (zs : List Int) (w : World) (hl : zs.length = 2 * n) (hn : n ≤ 65) (hc : Ints w ao zs) (hnib : ∀ j, j < zs.length → 0 ≤ zs.getD j 0 ∧ zs.getD j 0 ≤ 15) :
    Calls Try.prog 51 #[.slice ao (2 * n) cap] w fun e w' => e = .returned (.slice (some ⟨w.heap.size, 0, none⟩) n n) ∧ ∃ A m, w' = (w.alloc (.cells A 5)).drewN m ∧ A = ((pairUp zs).map (Value.int .u8)).toArray := by
  have hmk := make_bytes n (by omega)
  have hq : (2 * (n : Int)) / 2 = (n : Int) := by omega
  have HL := hide hl
  clear hl
  go_enter Try.func51, Try.ntmps51
  go_wp2
  go_loopw [11] (fun i wr => ∃ (k m : Nat) (A : Array Value), k ≤ n ∧ i = .int .i64 k ∧ wr = (w.alloc (.cells A 5)).drewN m ∧ A.size = n ∧ ∀ j, j < k → A[j]? = some (.int .u8 ((pairUp zs).getD j 0))) (fun i _ => n - (intOf i).toNat)
  case atStart => exact ⟨0, 0, _, Nat.zero_le _, rfl, rfl, by simp [madeCells], by omega⟩
  case round =>
    obtain ⟨k, m, A, hk, rfl, rfl, hA, hj⟩ := hrel
    by_cases hlt : k < n
    · obtain ⟨b, off, rfl, hcell⟩ := hc.get (2 * k) (by rw [HL.out]; omega)
      obtain ⟨b', off', he, hcell'⟩ := hc.get (2 * k + 1) (by rw [HL.out]; omega)
      obtain ⟨rfl, rfl⟩ : b = b' ∧ off = off' := by simpa using he
      have lb := World.block_lt_of_cell? w _ hcell
      have n1 := hnib (2 * k) (by rw [HL.out]; omega)
      have n2 := hnib (2 * k + 1) (by rw [HL.out]; omega)
      have hx : (w.alloc (.cells A 5)).cell? ⟨b, off + 2 * k, none⟩ = some (.int .i64 (zs.getD (2 * k) 0)) := by rw [World.cell?_alloc_past _ _ _ (by simpa using lb)]; exact hcell
      have hy : (w.alloc (.cells A 5)).cell? ⟨b, off + (2 * k + 1), none⟩ = some (.int .i64 (zs.getD (2 * k + 1) 0)) := by rw [World.cell?_alloc_past _ _ _ (by simpa using lb)]; exact hcell'
      have HP := hide (pairUp_getD n k zs HL.out hlt)
      have HJ := hide hj
      clear hj hcell hcell' he hc hnib
      generalize zs.getD (2 * k) 0 = x at *
      generalize zs.getD (2 * k + 1) 0 = y at *
      obtain ⟨x1, x2⟩ := n1
      obtain ⟨y1, y2⟩ := n2
      have b0 : (0 : Int) ≤ (k : Int) := by omega
      have b1 : (k : Int) < (n : Int) := by omega
      have b2 : 2 * (k : Int) < 2 * (n : Int) := by omega
      have b3 : 2 * (k : Int) + 1 < 2 * (n : Int) := by omega
      go_wp2
      go_region
      go_wp2
      go_roundw
      case rel =>
        refine ⟨k + 1, m + 1, A.setIfInBounds k (.int .u8 ((pairUp zs).getD k 0)), by omega, by go_num, ?_, by simp [hA], ?_⟩
        · rw [or_nib x y x1 x2 y1 y2, ← HP.out]
          exact congrArg (fun u => World.drewN u (m + 1)) (World.setCell_alloc_new A 5 k _)
        · intro j hj
          rw [Array.getElem?_setIfInBounds]
          by_cases e : k = j
          · subst e; simp [hA, hlt]
          · rw [if_neg e]; exact HJ.out j (by omega)
      case measure => simp [intOf]; omega
    · have hkn : k = n := by omega
      have HE : Hid (A = ((pairUp zs).map (Value.int .u8)).toArray) := by
        have hp := pairUp_length n zs HL.out
        apply Array.ext_getElem?
        intro j
        by_cases hjn : j < n
        · rw [hj j (by omega)]
          simp [List.getD_eq_getElem?_getD, hp, hjn]
        · rw [Array.getElem?_eq_none (by omega)]
          simp [List.getElem?_eq_none (show (pairUp zs).length ≤ j by omega)]
      clear hkn hj
      go_wp2
      go_ret
      exact ⟨rfl, A, m, rfl, HE.out⟩

set_option maxRecDepth 100000 in
set_option maxHeartbeats 400000 in
theorem withMark_odd (ao : Option Addr) (cap : Nat) (zs : List Int) (w : World) (leaf : Bool) (hl : zs.length ≤ 128) (hodd : (zs.length : Int) % 2 = 1) (hc : Ints w ao zs) (hnil : ao = none → cap = 0) :
    Calls Try.prog 52 #[.slice ao zs.length cap, .bool leaf] w fun e w' => ∃ v, e = .returned v ∧
      w'.ownsRow w.heap.size 3 1 v (1 + zs.length) ((halvesOf leaf zs).map (Value.int .i64)) ∧ Below w.heap.size w w' := by
  obtain ⟨i0, hi, hz0, hz1, hz2⟩ := info_parts info3
  obtain ⟨n, M, hn, hM, hmk⟩ : ∃ (n : Nat) (M : Array Value), Hid (n = zs.length + 2) ∧ Hid (M.size = n * 1) ∧ ∀ w : World, (Instr.makeSlice 48 (.int .i64 0) (.int .i64 ((zs.length : Int) + 2))).run Try.prog w =
    .ok (.slice (some ⟨w.heap.size, 0, none⟩) 0 n) (w.alloc (.cells M 3)) := ⟨zs.length + 2, _, rfl, by simp [Hid, madeCells], fun w => make_ints0 (zs.length + 2) (by omega) w⟩
  have hown0 := hide (World.ownsRow_made (base := w.heap.size) (e := 3) (size := 1) w M n (Nat.le_refl _) (by unfold maxLen; rw [hn.out]; omega) hM.out)
  have HH := hide (halvesOf_odd (leaf := leaf) (zs := zs) (by omega))
  have htst : ((zs.length : Int) % 2 == 1) = true := by simp [hodd]
  clear hodd
  have HR := hide (hc.reads hnil)
  clear hc hnil
  have tok1 : True := trivial
  cases leaf
  · go_enter Try.func52, Try.ntmps52
    go_wp2_with (first
      | (at_builtin; have _t := tok1; go_must (refine wpList_append_lies _ rfl (.tmp 16) (.tmp 19) 48 rfl w.heap.size 3 i0 (.int .i64 0) 1 8 Try.underlying48 hi hz0 hz1 hz2 rfl (by decide) _ 0 [] rfl (hown0.out.alloc _) ⟨w.heap.size + 1, 0, none⟩ 1 1 [.int .i64 1] rfl rfl (by simpa using news_of (w.alloc (.cells M 3)) [.int .i64 1]) (by simp [Value.oneCell']) (by omega) (by unfold maxLen; omega) (by omega) (by simp <;> omega) _ rfl ?_); intro g c w1 hown1 hgrow1 hat1 hlt1; go_must (have hb1 : Below w.heap.size w w1 := (below_alloc2 w _ _).grown hgrow1 (by simp <;> omega) (row_ge (Nat.le_refl _))); go_must (simp only [Nat.zero_add, List.nil_append] at hown1); clear tok1)
      | (at_builtin; go_must (refine wpList_append_reads rfl (.tmp 25) (.tmp 26) 48 rfl w.heap.size 3 i0 (.int .i64 0) 1 8 Try.underlying48 hi hz0 hz1 hz2 rfl (by decide) _ 1 _ rfl hown1 _ zs.length (zs.map (Value.int .i64)) rfl (HR.out.keep hb1) (by simp) (ints_one zs) (by unfold maxLen; omega) (by omega) (by have := hb1.size; omega) ?_); intro v2 w2 hown2 hgrow2))
    go_ret
    refine ⟨_, rfl, ?_, hb1.grown hgrow2 hb1.size (own_ge hown1 (Nat.le_refl _))⟩
    rw [HH.out]
    exact hown2
  · go_enter Try.func52, Try.ntmps52
    go_wp2_with (first
      | (at_builtin; have _t := tok1; go_must (refine wpList_append_lies _ rfl (.tmp 16) (.tmp 19) 48 rfl w.heap.size 3 i0 (.int .i64 0) 1 8 Try.underlying48 hi hz0 hz1 hz2 rfl (by decide) _ 0 [] rfl (hown0.out.alloc _) ⟨w.heap.size + 1, 0, none⟩ 1 1 [.int .i64 3] rfl rfl (by simpa using news_of (w.alloc (.cells M 3)) [.int .i64 3]) (by simp [Value.oneCell']) (by omega) (by unfold maxLen; omega) (by omega) (by simp <;> omega) _ rfl ?_); intro g c w1 hown1 hgrow1 hat1 hlt1; go_must (have hb1 : Below w.heap.size w w1 := (below_alloc2 w _ _).grown hgrow1 (by simp <;> omega) (row_ge (Nat.le_refl _))); go_must (simp only [Nat.zero_add, List.nil_append] at hown1); clear tok1)
      | (at_builtin; go_must (refine wpList_append_reads rfl (.tmp 25) (.tmp 26) 48 rfl w.heap.size 3 i0 (.int .i64 0) 1 8 Try.underlying48 hi hz0 hz1 hz2 rfl (by decide) _ 1 _ rfl hown1 _ zs.length (zs.map (Value.int .i64)) rfl (HR.out.keep hb1) (by simp) (ints_one zs) (by unfold maxLen; omega) (by omega) (by have := hb1.size; omega) ?_); intro v2 w2 hown2 hgrow2))
    go_ret
    refine ⟨_, rfl, ?_, hb1.grown hgrow2 hb1.size (own_ge hown1 (Nat.le_refl _))⟩
    rw [HH.out]
    exact hown2

set_option maxRecDepth 100000 in
set_option maxHeartbeats 400000 in
theorem withMark_even (ao : Option Addr) (cap : Nat) (zs : List Int) (w : World) (leaf : Bool) (hl : zs.length ≤ 128) (hodd : (zs.length : Int) % 2 = 0) (hc : Ints w ao zs) (hnil : ao = none → cap = 0) :
    Calls Try.prog 52 #[.slice ao zs.length cap, .bool leaf] w fun e w' => ∃ v, e = .returned v ∧
      w'.ownsRow w.heap.size 3 1 v (2 + zs.length) ((halvesOf leaf zs).map (Value.int .i64)) ∧ Below w.heap.size w w' := by
  obtain ⟨i0, hi, hz0, hz1, hz2⟩ := info_parts info3
  obtain ⟨n, M, hn, hM, hmk⟩ : ∃ (n : Nat) (M : Array Value), Hid (n = zs.length + 2) ∧ Hid (M.size = n * 1) ∧ ∀ w : World, (Instr.makeSlice 48 (.int .i64 0) (.int .i64 ((zs.length : Int) + 2))).run Try.prog w =
    .ok (.slice (some ⟨w.heap.size, 0, none⟩) 0 n) (w.alloc (.cells M 3)) := ⟨zs.length + 2, _, rfl, by simp [Hid, madeCells], fun w => make_ints0 (zs.length + 2) (by omega) w⟩
  have hown0 := hide (World.ownsRow_made (base := w.heap.size) (e := 3) (size := 1) w M n (Nat.le_refl _) (by unfold maxLen; rw [hn.out]; omega) hM.out)
  have HH := hide (halvesOf_even (leaf := leaf) (zs := zs) (by omega))
  have htst : ((zs.length : Int) % 2 == 1) = false := by simp [hodd]
  clear hodd
  have HR := hide (hc.reads hnil)
  clear hc hnil
  have tok1 : True := trivial
  cases leaf
  · go_enter Try.func52, Try.ntmps52
    go_wp2_with (first
      | (at_builtin; have _t := tok1; go_must (refine wpList_append_lies _ rfl (.tmp 21) (.tmp 23) 48 rfl w.heap.size 3 i0 (.int .i64 0) 1 8 Try.underlying48 hi hz0 hz1 hz2 rfl (by decide) _ 0 [] rfl (hown0.out.alloc _) ⟨w.heap.size + 1, 0, none⟩ 2 2 [.int .i64 0, .int .i64 0] rfl rfl (by simpa using news_of (w.alloc (.cells M 3)) [.int .i64 0, .int .i64 0]) (by simp [Value.oneCell']) (by omega) (by unfold maxLen; omega) (by omega) (by simp <;> omega) _ rfl ?_); intro g c w1 hown1 hgrow1 hat1 hlt1; go_must (have hb1 : Below w.heap.size w w1 := (below_alloc2 w _ _).grown hgrow1 (by simp <;> omega) (row_ge (Nat.le_refl _))); go_must (simp only [Nat.zero_add, List.nil_append] at hown1); clear tok1)
      | (at_builtin; go_must (refine wpList_append_reads rfl (.tmp 25) (.tmp 26) 48 rfl w.heap.size 3 i0 (.int .i64 0) 1 8 Try.underlying48 hi hz0 hz1 hz2 rfl (by decide) _ 2 _ rfl hown1 _ zs.length (zs.map (Value.int .i64)) rfl (HR.out.keep hb1) (by simp) (ints_one zs) (by unfold maxLen; omega) (by omega) (by have := hb1.size; omega) ?_); intro v2 w2 hown2 hgrow2))
    go_ret
    refine ⟨_, rfl, ?_, hb1.grown hgrow2 hb1.size (own_ge hown1 (Nat.le_refl _))⟩
    rw [HH.out]
    exact hown2
  · go_enter Try.func52, Try.ntmps52
    go_wp2_with (first
      | (at_builtin; have _t := tok1; go_must (refine wpList_append_lies _ rfl (.tmp 21) (.tmp 23) 48 rfl w.heap.size 3 i0 (.int .i64 0) 1 8 Try.underlying48 hi hz0 hz1 hz2 rfl (by decide) _ 0 [] rfl (hown0.out.alloc _) ⟨w.heap.size + 1, 0, none⟩ 2 2 [.int .i64 2, .int .i64 0] rfl rfl (by simpa using news_of (w.alloc (.cells M 3)) [.int .i64 2, .int .i64 0]) (by simp [Value.oneCell']) (by omega) (by unfold maxLen; omega) (by omega) (by simp <;> omega) _ rfl ?_); intro g c w1 hown1 hgrow1 hat1 hlt1; go_must (have hb1 : Below w.heap.size w w1 := (below_alloc2 w _ _).grown hgrow1 (by simp <;> omega) (row_ge (Nat.le_refl _))); go_must (simp only [Nat.zero_add, List.nil_append] at hown1); clear tok1)
      | (at_builtin; go_must (refine wpList_append_reads rfl (.tmp 25) (.tmp 26) 48 rfl w.heap.size 3 i0 (.int .i64 0) 1 8 Try.underlying48 hi hz0 hz1 hz2 rfl (by decide) _ 2 _ rfl hown1 _ zs.length (zs.map (Value.int .i64)) rfl (HR.out.keep hb1) (by simp) (ints_one zs) (by unfold maxLen; omega) (by omega) (by have := hb1.size; omega) ?_); intro v2 w2 hown2 hgrow2))
    go_ret
    refine ⟨_, rfl, ?_, hb1.grown hgrow2 hb1.size (own_ge hown1 (Nat.le_refl _))⟩
    rw [HH.out]
    exact hown2
end Go.Proofs.Ytoafiieciiijbaa
