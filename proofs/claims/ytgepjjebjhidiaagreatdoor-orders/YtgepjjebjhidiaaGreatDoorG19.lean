/-
  OUR OWN: KecG3.
-/
import Derived.Test.YtgepjjebjhidiaaGreatDoorG14
import Derived.Test.YtgepjjebjhidiaaGreatDoorG03
import Derived.Lib.BufferWrite
import Derived.Laws.BytesArg
namespace Go.Proofs.YtgepjjebjhidiaaGreatDoor
open Go.RowKit

theorem size5 : (Tryz.prog.info? 5).map (·.size) = some 1 := by kernel_rfl
/-- bytes as cells -/
def bcells (l : List UInt8) : Array Value := (l.map fun b => Value.int .u8 (b.toNat : Int)).toArray
theorem bcells_get (l : List UInt8) (j : Nat) : (bcells l)[j]? = (l[j]?).map fun b => Value.int .u8 (b.toNat : Int) := by simp [bcells]
theorem bcells_set (l : List UInt8) (j : Nat) (b : UInt8) : (bcells l).setIfInBounds j (.int .u8 (b.toNat : Int)) = bcells (l.set j b) := by
  apply Array.ext_getElem?
  intro i
  rw [Array.getElem?_setIfInBounds, bcells_get, bcells_get, List.getElem?_set]
  by_cases e : j = i
  · subst e
    by_cases h : j < l.length
    · simp [bcells, h]
    · simp [bcells, h]
  · simp [e]
theorem bcells_conv {w : World} {g : Nat} {l : List UInt8} (h : w.heap[g]? = some (.cells (bcells l) 5 (0, 0))) (n : Nat) (hn : l.length = n) (cap : Nat) :
    (convert 116 9 (.slice (some ⟨g, 0, none⟩) n cap)).run Tryz.prog w = .ok (.string ⟨l.toArray⟩) w := by
  subst hn
  refine run_convert_bytes_back (P := Tryz.prog) w 116 9 5 ⟨g, 0, none⟩ cap l Tryz.underlying116 Tryz.underlying5 Tryz.underlying9 (fun j hj => ?_)
  rw [addr_add, Nat.zero_add, cell_of_row w g j _ 5 (0, 0) h, bcells_get]
  simp [hj]

/-- the last block -/
def padL (l : List UInt8) : List UInt8 := if l.length = 135 then l ++ [129] else l ++ 1 :: (List.replicate (134 - l.length) 0 ++ [128])
theorem padL_length (l : List UInt8) (h : l.length < 136) : (padL l).length = 136 := by
  unfold padL
  split
  · simp; omega
  · simp; omega
def padS (s : ByteArray) : ByteArray := ⟨(padL s.data.toList).toArray⟩
theorem padS_size (s : ByteArray) (h : s.size < 136) : (padS s).size = 136 := by
  have := padL_length s.data.toList (by rw [Array.length_toList]; exact h)
  rw [Lib.size_eq]; simpa [padS] using this

/-- the block as it is made: the rest, and noughts -/
def rawL (l : List UInt8) : List UInt8 := l ++ List.replicate (136 - l.length) 0
theorem raw_135 (l : List UInt8) (h : l.length = 135) : ((rawL l).set 135 1).set 135 129 = padL l := by
  unfold rawL padL
  rw [if_pos h, h]
  rw [List.set_set]
  rw [List.set_append_right _ _ (by omega), h]
  rfl
theorem raw_less (l : List UInt8) (h : l.length < 135) : ((rawL l).set l.length 1).set 135 128 = padL l := by
  unfold rawL padL
  rw [if_neg (by omega)]
  rw [List.set_append_right _ _ (Nat.le_refl _), Nat.sub_self, List.set_append_right _ _ (by omega)]
  congr 1
  obtain ⟨m, hm⟩ : ∃ m, 136 - l.length = m + 2 := ⟨134 - l.length, by omega⟩
  rw [hm, show 134 - l.length = m from by omega, show 135 - l.length = m + 1 from by omega]
  rw [show m + 2 = (m + 1) + 1 from rfl, List.replicate_succ, List.set_cons_zero, List.set_cons_succ, List.replicate_succ']
  congr 1
  rw [List.set_append_right _ _ (by simp)]
  simp
theorem raw_at (l : List UInt8) (h : l.length < 135) : ((rawL l).set l.length 1)[135]? = some 0 := by
  rw [List.getElem?_set_ne (by omega)]
  unfold rawL
  rw [List.getElem?_append_right (by omega), List.getElem?_replicate]
  simp; omega

set_option maxRecDepth 20000 in
theorem copy_str (w : World) (s : ByteArray) (M : Array Value) (hM : M = bcells (List.replicate 136 0)) (hs : s.size < 136) :
    ∃ w1, (Builtin.copy_ #[116, 9] 3 #[.slice (some ⟨w.heap.size, 0, none⟩) 136 136, .string s]).run Tryz.prog (w.alloc (.cells M 5)) = .ok (.int .i64 (s.size : Int)) w1 ∧
      w1.heap[w.heap.size]? = some (.cells (bcells (rawL s.data.toList)) 5 (0, 0)) ∧ w.grownBy w1 none := by
  have hg : (w.alloc (.cells M 5)).heap[w.heap.size]? = some (.cells M 5 (0, 0)) := heap_alloc_new w _
  have hr := Lib.run_copy_row_string (P := Tryz.prog) (w.alloc (.cells M 5)) 116 9 3 5 w.heap.size 0 136 136 s M 5 Tryz.underlying116 size5 hg (by omega) (by rw [hM]; simp [bcells]; omega)
  refine ⟨_, hr, ?_, ?_⟩
  · rw [setRow_heap _ _ _ _ _ _ hg]
    congr 2
    have e : s.data.toList.length = s.size := by rw [Array.length_toList]; rfl
    rw [hM]
    simp only [bcells, rawL, Lib.byteCells, List.take_zero, List.nil_append, Nat.zero_add, List.map_append, List.map_replicate]
    rw [List.drop_replicate, e]
  · refine ⟨rfl, rfl, rfl, by simp, fun k hk _ => ?_⟩
    rw [setRow_other _ _ _ _ (by omega)]
    exact Below.heap_alloc _ _ _ hk

set_option maxRecDepth 100000 in
set_option maxHeartbeats 800000 in
theorem padded_any (s : ByteArray) (w : World) (hs : s.size < 136) :
    Calls Tryz.prog 46 #[.string s] w fun e w' => e = .returned (.string (padS s)) ∧ w.grownBy w' none := by
  obtain ⟨M, hM, hmk⟩ : ∃ M : Array Value, Hid (M = bcells (List.replicate 136 0)) ∧ ∀ w : World, (Instr.makeSlice 116 (.int .i64 136) (.int .i64 136)).run Tryz.prog w =
    .ok (.slice (some ⟨w.heap.size, 0, none⟩) 136 136) (w.alloc (.cells M 5)) := ⟨madeCells #[.int .u8 0] 136, by
      show madeCells #[.int .u8 0] 136 = bcells (List.replicate 136 0)
      apply Array.toList_inj.1
      rw [toList_madeCells_one]; simp [bcells], fun w => make_bytes 136 (by omega) w⟩
  obtain ⟨w1, hcopy, hrow, hg1⟩ := copy_str w s M hM.out hs
  have e : s.data.toList.length = s.size := by rw [Array.length_toList]; rfl
  have HE := hide e
  clear e
  by_cases h135 : s.size = 135
  · have hr2 := heap_setCell_at hrow 135 (.int .u8 ((1 : UInt8).toNat : Int))
    rw [bcells_set] at hr2
    have hr3 := heap_setCell_at hr2 135 (.int .u8 ((129 : UInt8).toNat : Int))
    rw [bcells_set, raw_135 _ (by rw [HE.out]; exact h135)] at hr3
    have hc1 : ∃ u, w1.cell? ⟨w.heap.size, 135, none⟩ = some u := by
      rw [cell_of_row _ _ _ _ _ _ hrow, bcells_get]
      refine ⟨_, by rw [List.getElem?_eq_getElem (by simp [rawL]; have := HE.out; omega)]; rfl⟩
    obtain ⟨u1, hu1⟩ := hc1
    have hf1 := frozen_of_row w1 w.heap.size 135 _ _ hrow
    have hor : bits BinOp.or IntKind.u8 1 128 = 129 := by decide +kernel
    have hcv : (convert 116 9 (.slice (some ⟨w.heap.size, 0, none⟩) 136 136)).run Tryz.prog ((w1.setCell ⟨w.heap.size, 135, none⟩ (.int .u8 1)).setCell ⟨w.heap.size, 135, none⟩ (.int .u8 129)) = .ok (.string (padS s)) ((w1.setCell ⟨w.heap.size, 135, none⟩ (.int .u8 1)).setCell ⟨w.heap.size, 135, none⟩ (.int .u8 129)) := bcells_conv hr3 136 (padL_length _ (by rw [HE.out]; omega)) 136
    have HG := hide (grown_set (grown_set hg1 w.heap.size 135 (.int .u8 1) (.inl (Nat.le_refl _))) w.heap.size 135 (.int .u8 129) (.inl (Nat.le_refl _)))
    clear hrow hg1 hr2 hr3
    generalize padS s = P at *
    go_enter Tryz.func46, Tryz.ntmps46
    go_wp2
    go_ret
    exact ⟨rfl, HG.out⟩
  · have hlt : s.size < 135 := by omega
    have hr2 := heap_setCell_at hrow s.size (.int .u8 ((1 : UInt8).toNat : Int))
    rw [bcells_set] at hr2
    have hr3 := heap_setCell_at hr2 135 (.int .u8 ((128 : UInt8).toNat : Int))
    have hraw := raw_less s.data.toList (by rw [HE.out]; exact hlt)
    have hat := raw_at s.data.toList (by rw [HE.out]; exact hlt)
    rw [HE.out] at hraw hat
    rw [bcells_set, hraw] at hr3
    obtain ⟨u1, hu1⟩ : ∃ u, w1.cell? ⟨w.heap.size, s.size, none⟩ = some u := by
      rw [cell_of_row _ _ _ _ _ _ hrow, bcells_get]
      refine ⟨_, by rw [List.getElem?_eq_getElem (by simp [rawL]; have := HE.out; omega)]; rfl⟩
    have hf1 := frozen_of_row w1 w.heap.size s.size _ _ hrow
    have hc2 : (w1.setCell ⟨w.heap.size, s.size, none⟩ (.int .u8 1)).cell? ⟨w.heap.size, 135, none⟩ = some (.int .u8 0) := by
      have h := cell_of_row _ w.heap.size 135 _ _ _ hr2
      rw [bcells_get, hat] at h
      exact h
    have hf2 : (w1.setCell ⟨w.heap.size, s.size, none⟩ (.int .u8 1)).frozen? ⟨w.heap.size, 135, none⟩ = false := frozen_of_row _ w.heap.size 135 _ _ hr2
    have hor : bits BinOp.or IntKind.u8 0 128 = 128 := by decide +kernel
    have hcv : (convert 116 9 (.slice (some ⟨w.heap.size, 0, none⟩) 136 136)).run Tryz.prog ((w1.setCell ⟨w.heap.size, s.size, none⟩ (.int .u8 1)).setCell ⟨w.heap.size, 135, none⟩ (.int .u8 128)) = .ok (.string (padS s)) ((w1.setCell ⟨w.heap.size, s.size, none⟩ (.int .u8 1)).setCell ⟨w.heap.size, 135, none⟩ (.int .u8 128)) := bcells_conv hr3 136 (padL_length _ (by rw [HE.out]; omega)) 136
    have HG := hide (grown_set (grown_set hg1 w.heap.size s.size (.int .u8 1) (.inl (Nat.le_refl _))) w.heap.size 135 (.int .u8 128) (.inl (Nat.le_refl _)))
    clear hrow hg1 hr2 hr3 hraw hat h135
    generalize padS s = P at *
    have b1 : (s.size : Int) < 135 := by omega
    go_enter Tryz.func46, Tryz.ntmps46
    go_wp2
    go_ret
    exact ⟨rfl, HG.out⟩

/-- the hash's bytes -/
def outB (f : Nat → Nat) (i : Nat) : UInt8 := UInt8.ofNat (f (i / 8) / 2 ^ (8 * (i % 8)) % 256)
def outL (f : Nat → Nat) : List UInt8 := (List.range 32).map (outB f)
theorem out_eq (f : Nat → Nat) (i : Nat) : ((f (i / 8) : Int) / 2 ^ (8 * (i % 8))) % 256 = ((outB f i).toNat : Int) := by
  unfold outB
  have e : ((f (i / 8) : Int) / 2 ^ (8 * (i % 8))) = ((f (i / 8) / 2 ^ (8 * (i % 8)) : Nat) : Int) := by
    rw [Int.natCast_ediv, Int.natCast_pow]; rfl
  rw [e]
  simp

set_option maxRecDepth 100000 in
set_option maxHeartbeats 800000 in
theorem hash_any (b : Nat) (f : Nat → Nat) (w : World) (hA : At w b 89 25 f) :
    Calls Tryz.prog 47 #[.pointer (some ⟨b, 0, none⟩)] w fun e w' => e = .returned (.string ⟨(outL f).toArray⟩) ∧ w.grownBy w' none := by
  have hb := hA.lt
  have HA := hide hA
  clear hA
  obtain ⟨M, hM, hmk⟩ : ∃ M : Array Value, Hid (M.size = 32) ∧ ∀ w : World, (Instr.makeSlice 116 (.int .i64 32) (.int .i64 32)).run Tryz.prog w =
    .ok (.slice (some ⟨w.heap.size, 0, none⟩) 32 32) (w.alloc (.cells M 5)) := ⟨madeCells #[.int .u8 0] 32, by simp [Hid, madeCells], fun w => make_bytes 32 (by omega) w⟩
  go_enter Tryz.func47, Tryz.ntmps47
  go_wp2
  go_loopw [8] (fun i wr => ∃ (k : Nat) (A : Array Value), k ≤ 32 ∧ i = .int .i64 (k : Int) ∧ wr = w.alloc (.cells A 5) ∧ Hid (A.size = 32 ∧ ∀ j, j < k → A[j]? = some (.int .u8 ((outB f j).toNat : Int)))) (fun i _ => 32 - (intOf i).toNat)
  case atStart => exact ⟨0, M, Nat.zero_le _, rfl, rfl, hM.out, by omega⟩
  case round =>
    obtain ⟨k, A, hk, rfl, rfl, hj⟩ := hrel
    by_cases hlt : k < 32
    · have hx := (HA.out.alloc (.cells A 5)).cell (k / 8) (by omega)
      have HO := hide (out_eq f k)
      have b0 : (0 : Int) ≤ (k : Int) := by omega
      have b1 : (k : Int) < 32 := by omega
      have hsz := hj.out.1
      go_wp2
      rw [HO.out]
      go_roundw
      case rel =>
        refine ⟨k + 1, _, by omega, by go_num, rfl, by simp [hsz], ?_⟩
        intro j hj2
        rw [Array.getElem?_setIfInBounds]
        by_cases e : k = j
        · subst e; simp [hsz, hlt]
        · rw [if_neg e]; exact hj.out.2 j (by omega)
      case measure => simp [intOf]; omega
    · have HE : Hid (A = bcells (outL f)) := by
        have hsz := hj.out.1
        apply Array.ext_getElem?
        intro j
        rw [bcells_get]
        by_cases hj3 : j < 32
        · rw [hj.out.2 j (by omega)]; simp [outL, hj3]
        · rw [Array.getElem?_eq_none (by omega)]; simp [outL, List.getElem?_eq_none (show (List.range 32).length ≤ j by simp; omega)]
      have hcv := bcells_conv (w := w.alloc (.cells A 5)) (g := w.heap.size) (l := outL f) (by rw [← HE.out]; exact heap_alloc_new w _) 32 (by simp [outL]) 32
      have HG := hide (World.grownBy_alloc w (.cells A 5) none)
      clear hj HE
      go_wp2
      go_ret
      exact ⟨rfl, HG.out⟩

def zeroF : Nat → Nat := fun _ => 0
theorem zeroF_w (j : Nat) : W64 (zeroF j) := by unfold W64 zeroF; omega
/-- the state behind m blocks of a text -/
def spTo (s : ByteArray) : Nat → Nat → Nat
  | 0 => zeroF
  | m + 1 => absF (spTo s m) (s.extract (136 * m) (136 * m + 136))
theorem spTo_w (s : ByteArray) : ∀ m j, W64 (spTo s m j)
  | 0, j => zeroF_w j
  | m + 1, j => absF_w (spTo_w s m) _ j
/-- the hash of a text -/
def hashOf (s : ByteArray) : ByteArray := ⟨(outL (absF (spTo s (s.size / 136)) (padS (s.extract (136 * (s.size / 136)) s.size)))).toArray⟩

theorem ext_bytes {a b : ByteArray} (h : a.data.toList = b.data.toList) : a = b := by
  have h2 : a.data = b.data := Array.toList_inj.1 h
  cases a; cases b; cases h2; rfl
theorem ext_take (s : ByteArray) (m : Nat) (h : 136 * m + 136 ≤ s.size) : (s.extract (136 * m) s.size).extract 0 136 = s.extract (136 * m) (136 * m + 136) := by
  apply ext_bytes
  rw [Lib.extract_data, Lib.extract_data, Lib.extract_data]
  simp only [List.drop_zero, Nat.sub_zero, List.take_take]
  congr 1
  omega
theorem ext_drop (s : ByteArray) (m : Nat) (h : 136 * m + 136 ≤ s.size) : (s.extract (136 * m) s.size).extract 136 (s.size - 136 * m) = s.extract (136 * (m + 1)) s.size := by
  apply ext_bytes
  rw [Lib.extract_data, Lib.extract_data, Lib.extract_data]
  rw [List.drop_take, List.take_take, List.drop_drop]
  rw [show 136 * m + 136 = 136 * (m + 1) from by omega]
  rw [show min (s.size - 136 * m - 136) (s.size - 136 * m - 136) = s.size - 136 * (m + 1) from by omega]
theorem ext_all (s : ByteArray) : s.extract 0 s.size = s := by
  apply ext_bytes
  rw [Lib.extract_data, Lib.size_eq, List.drop_zero, Nat.sub_zero, List.take_length]

set_option maxRecDepth 100000 in
set_option maxHeartbeats 800000 in
theorem sum_any (s : ByteArray) (w : World) (hT : Tabs w) (h2 : 3 ≤ w.heap.size) (hs : s.size ≤ 9223372036854775000) :
    Calls Tryz.prog 27 #[.string s] w fun e w' => e = .returned (.string (hashOf s)) ∧ w.grownBy w' none := by
  have HT := hide hT
  clear hT
  go_enter Tryz.func27, Tryz.ntmps27
  go_wp2
  go_loopw [0] (fun v wr => ∃ (m : Nat) (r : ByteArray), Hid (136 * m ≤ s.size) ∧ v = .string r ∧ Hid (r = s.extract (136 * m) s.size ∧ r.size = s.size - 136 * m) ∧ At wr w.heap.size 89 25 (spTo s m) ∧ w.grownBy wr none) (fun v _ => match v with | .string r => r.size | _ => 0)
  case atStart => exact ⟨0, s, Nat.zero_le _, rfl, ⟨(ext_all s).symm, rfl⟩, heap_alloc_new w _, World.grownBy_alloc w _ _⟩
  case round =>
    obtain ⟨m, r, hm, rfl, hr, hA, hg⟩ := hrel
    have HA := hide hA
    have HG := hide hg
    clear hA hg
    by_cases hlt : 136 ≤ r.size
    · have HX : Hid (r.extract 0 136 = s.extract (136 * m) (136 * m + 136)) := by show _ = _; rw [hr.out.1]; exact ext_take s m (by have := hr.out.2; omega)
      have HY : Hid (r.extract 136 r.size = s.extract (136 * (m + 1)) s.size) := by show _ = _; rw [hr.out.2, hr.out.1]; exact ext_drop s m (by have := hr.out.2; omega)
      have hb1 : (136 : Int) ≤ (r.size : Int) := by omega
      have hb2 : (r.size : Int) ≤ 9223372036854775000 := by have := hr.out.2; omega
      go_wp2_with fail
      rw [HX.out]
      refine (absorb_any w.heap.size (spTo s m) _ wr HA.out (spTo_w s m) (HT.out.grownN HG.out) h2 (by rw [ByteArray.size_extract]; have := hr.out.2; omega)).mono ?_
      rintro e w1 ⟨rfl, ha1, hg1⟩
      have H1 : Hid (At w1 w.heap.size 89 25 (spTo s (m + 1)) ∧ w.grownBy w1 none) := ⟨ha1, HG.out.andThen hg1 (fun j e => by
        obtain rfl : w.heap.size = j := by simpa using e
        exact .inl (Nat.le_refl _))⟩
      clear ha1 hg1
      go_wp2
      go_roundw
      case rel => exact ⟨m + 1, _, by have := hr.out.2; have := hm.out; show 136 * (m + 1) ≤ s.size; omega, rfl, ⟨HY.out, by rw [ByteArray.size_extract]; have := hr.out.2; omega⟩, H1.out.1, H1.out.2⟩
      case measure => simp; omega
    · have hq : s.size / 136 = m := by have := hr.out.2; have := hm.out; omega
      have HH : Hid (hashOf s = ⟨(outL (absF (spTo s m) (padS r))).toArray⟩) := by show hashOf s = _; unfold hashOf; rw [hq, ← hr.out.1]
      have hb1 : (r.size : Int) < 136 := by omega
      have hb2 : r.size < 136 := by omega
      clear hq
      go_wp2_with fail
      refine (padded_any r wr hb2).mono ?_
      rintro e w1 ⟨rfl, hg1⟩
      have H1 := hide hg1
      clear hg1
      go_wp2_with fail
      refine (absorb_any w.heap.size (spTo s m) (padS r) w1 (HA.out.grown H1.out (by simp)) (spTo_w s m) ((HT.out.grownN HG.out).grownN H1.out) h2 (padS_size r hb2)).mono ?_
      rintro e w2 ⟨rfl, ha2, hg2⟩
      have H2 := hide (And.intro ha2 hg2)
      clear ha2 hg2
      go_wp2_with fail
      refine (hash_any w.heap.size _ w2 H2.out.1).mono ?_
      rintro e w3 ⟨rfl, hg3⟩
      have HF : Hid (w.grownBy w3 none) := ((HG.out.trans H1.out).andThen H2.out.2 (fun j e => by
        obtain rfl : w.heap.size = j := by simpa using e
        exact .inl (Nat.le_refl _))).trans hg3
      clear hg3
      go_wp2
      go_ret
      exact ⟨by rw [HH.out]; rfl, HF.out⟩

end Go.Proofs.YtgepjjebjhidiaaGreatDoor
