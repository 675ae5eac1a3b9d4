/-
  OUR OWN: the walk of the law Paths.
-/
import Derived.Test.YtoafiieciiijbaaPathK
import Derived.Test.YtoafiieciiijbaaPathI2
import Derived.Laws.CopyOwn
namespace Go.Proofs.Ytoafiieciiijbaa
open Go.RowKit

theorem make_ints (n : Nat) (h : n * 8 ≤ 281474976710656) (w : World) : (Instr.makeSlice 48 (.int .i64 (n : Int)) (.int .i64 (n : Int))).run Try.prog w =
    .ok (.slice (some ⟨w.heap.size, 0, none⟩) n n) (w.alloc (.cells (madeCells #[.int .i64 0] n) 3)) := by
  obtain ⟨i0, hi, hz0, hz1, hz2⟩ := info_parts info3
  have h := run_make (P := Try.prog) w 48 3 i0 (.int .i64 0) Try.underlying48 hi hz0 .i64 .i64 (n : Int) (n : Int) (by omega) (by omega) (by rw [hz2]; omega) (by omega)
  simpa [hz1, Value.cells] using h
theorem size3 : (Try.prog.info? 3).map (·.size) = some 1 := by kernel_rfl

theorem splice_ints (zs : List Int) : splice (List.replicate (zs.length + 1) (Value.int .i64 0)) 0 (zs.map (Value.int .i64)) = zs.map (Value.int .i64) ++ [Value.int .i64 0] := by
  simp only [splice, List.take_zero, List.nil_append, Nat.zero_add, List.length_map]
  congr 1
  rw [List.drop_replicate]
  rw [show zs.length + 1 - zs.length = 1 from by omega]
  rfl

/-- the world ahead of the first call: the book, what is lent -/
structure Lent (w W : World) (zs : List Int) : Prop where
  book : W.heap[w.heap.size]? = some (.cells #[.slice none 0 0, .slice none 0 0, .slice none 0 0, .slice none 0 0, .slice none 0 0, .slice none 0 0] 39 (0, 0))
  own : W.heap[w.heap.size + 1]? = some (.cells (zs.map (Value.int .i64) ++ [Value.int .i64 (-77)]).toArray 3 (0, 0))
  below : Below w.heap.size w W
theorem lent_mk {w w1 : World} {zs : List Int} {M : List Value} (hM : M = List.replicate (zs.length + 1) (.int .i64 0)) (hrow : w1.heap[w.heap.size + 1]? = some (.cells (splice M 0 (zs.map (Value.int .i64))).toArray 3 (0, 0)))
    (hb : Below (w.heap.size + 1) (w.alloc (.cells #[.slice none 0 0, .slice none 0 0, .slice none 0 0, .slice none 0 0, .slice none 0 0, .slice none 0 0] 39)) w1) :
    Lent w (w1.setCell ⟨w.heap.size + 1, zs.length, none⟩ (.int .i64 (-77))) zs ∧ w1.cell? ⟨w.heap.size + 1, zs.length, none⟩ = some (.int .i64 0) ∧ w1.frozen? ⟨w.heap.size + 1, zs.length, none⟩ = false := by
  rw [hM, splice_ints] at hrow
  refine ⟨⟨?_, ?_, ?_⟩, ?_, ?_⟩
  · rw [Below.heap_setCell _ _ _ _ (by simp), hb.block _ (by omega)]
    exact heap_alloc_new w _
  · rw [heap_setCell_same hrow]
    congr 2
    apply Array.ext_getElem?
    intro j
    rw [Array.getElem?_setIfInBounds]
    by_cases e : zs.length = j
    · subst e; simp
    · rw [if_neg e]
      simp only [List.getElem?_toArray, List.getElem?_append, List.length_map]
      by_cases h : j < zs.length
      · simp [h]
      · simp [h]
        rw [List.getElem?_eq_none (by simp; omega), List.getElem?_eq_none (by simp; omega)]
  · exact ((below_alloc w _).trans (hb.mono (by omega))).setCell (by simp) _
  · rw [cell_of_blk hrow]; simp
  · exact frozen_of_blk hrow _
theorem Lent.ints {w W : World} {zs : List Int} (h : Lent w W zs) : Ints W (some ⟨w.heap.size + 1, 0, none⟩) zs := by
  refine .inr ⟨_, _, rfl, fun j hj => ?_⟩
  rw [Nat.zero_add, cell_of_blk h.own]
  simp [List.getD_eq_getElem?_getD, List.getElem?_append, hj]
theorem Lent.last {w W : World} {zs : List Int} (h : Lent w W zs) : W.cell? ⟨w.heap.size + 1, zs.length, none⟩ = some (.int .i64 (-77)) := by
  rw [cell_of_blk h.own]; simp

theorem copy_in (w : World) (ao : Option Addr) (cap N : Nat) (zs : List Int) (M : List Value) (hN : N = zs.length + 1) (hM : M = List.replicate (zs.length + 1) (.int .i64 0)) (hc : Ints w ao zs) :
    ∃ w1, (Builtin.copy_ #[48, 48] 3 #[.slice (some ⟨w.heap.size + 1, 0, none⟩) N N, .slice ao zs.length cap]).run Try.prog ((w.alloc (.cells #[.slice none 0 0, .slice none 0 0, .slice none 0 0, .slice none 0 0, .slice none 0 0, .slice none 0 0] 39)).alloc (.cells M.toArray 3)) = .ok (.int .i64 (zs.length : Int)) w1 ∧
      w1.heap[w.heap.size + 1]? = some (.cells (splice M 0 (zs.map (Value.int .i64))).toArray 3 (0, 0)) ∧ Below (w.heap.size + 1) (w.alloc (.cells #[.slice none 0 0, .slice none 0 0, .slice none 0 0, .slice none 0 0, .slice none 0 0, .slice none 0 0] 39)) w1 := by
  have hg : ((w.alloc (.cells #[.slice none 0 0, .slice none 0 0, .slice none 0 0, .slice none 0 0, .slice none 0 0, .slice none 0 0] 39)).alloc (.cells M.toArray 3)).heap[w.heap.size + 1]? = some (.cells M.toArray 3 (0, 0)) := by simpa using heap_alloc_new (w.alloc (.cells #[.slice none 0 0, .slice none 0 0, .slice none 0 0, .slice none 0 0, .slice none 0 0, .slice none 0 0] 39)) (.cells M.toArray 3)
  have hb : Below (w.heap.size + 1) (w.alloc (.cells #[.slice none 0 0, .slice none 0 0, .slice none 0 0, .slice none 0 0, .slice none 0 0, .slice none 0 0] 39)) ((w.alloc (.cells #[.slice none 0 0, .slice none 0 0, .slice none 0 0, .slice none 0 0, .slice none 0 0, .slice none 0 0] 39)).alloc (.cells M.toArray 3)) := by
    have := below_alloc (w.alloc (.cells #[.slice none 0 0, .slice none 0 0, .slice none 0 0, .slice none 0 0, .slice none 0 0, .slice none 0 0] 39)) (.cells M.toArray 3)
    simpa using this
  have hml : Nat.min zs.length N = zs.length := by rw [hN]; simp
  by_cases h0 : 0 < zs.length
  · obtain ⟨b, off, rfl, _, h2⟩ := (hc.keep (below_alloc2 w (.cells #[.slice none 0 0, .slice none 0 0, .slice none 0 0, .slice none 0 0, .slice none 0 0, .slice none 0 0] 39) (.cells M.toArray 3))).row h0
    have hr := run_copy_row (P := Try.prog) ((w.alloc (.cells #[.slice none 0 0, .slice none 0 0, .slice none 0 0, .slice none 0 0, .slice none 0 0, .slice none 0 0] 39)).alloc (.cells M.toArray 3)) 48 48 3 3 (w.heap.size + 1) 0 N N ⟨b, off, none⟩ zs.length cap M.toArray 3 (zs.map (Value.int .i64)) Try.underlying48 size3 hg (by rw [hml]; simp) (ints_news h2) (by rw [hM]; simp) (ints_one zs)
    refine ⟨_, hr.trans (by rw [List.length_map]; rfl), ?_, below_setRow hb (Nat.le_refl _) _⟩
    rw [setRow_heap _ _ _ _ _ _ hg]
    simp [splice]
  · obtain rfl : zs = [] := List.length_eq_zero_iff.1 (by omega)
    have hr := run_copy_none (P := Try.prog) ((w.alloc (.cells #[.slice none 0 0, .slice none 0 0, .slice none 0 0, .slice none 0 0, .slice none 0 0, .slice none 0 0] 39)).alloc (.cells M.toArray 3)) 48 48 3 3 (some ⟨w.heap.size + 1, 0, none⟩) ao N N 0 cap Try.underlying48 size3 (by simp)
    exact ⟨_, by rw [show ([] : List Int).length = 0 from rfl, hr]; rfl, by simpa [splice] using hg, hb⟩

theorem NumPost.under {A : Nat} {w0 w w' : World} {B : Nat} {l1 l3 l4 l5 l6 L2 lv : Value} {N2 n : Nat} {rows : List Value} {m : Value} (P : NumPost w w' B l1 l3 l4 l5 l6 L2 N2 rows lv n m) (h : Below A w0 w) (hA : A ≤ w.heap.size) (hB : A ≤ B) (hl : ∀ k, lv.ownBlock = some k → A ≤ k) (h2 : ∀ k, L2.ownBlock = some k → A ≤ k) : Below A w0 w' :=
  h.trans ⟨P.os, P.tape, P.output, P.size, fun k hk => P.far k (by omega) (by omega) (fun e => by have := hl k e.symm; omega) (fun e => by have := h2 k e.symm; omega)⟩
theorem MkA.below {w w' : World} {u : Value} {k : Nat} {m : Value} (h : MkA w u k m) (hb : Below w.heap.size w w') : MkA w' u k m := h.far (fun g _ hlt => hb.block g hlt)

theorem booked {w7 w8 w9 : World} {B n n2 : Nat} {lv x y z L2 lv2 : Value} (hn : n ≤ 1000000) (hn2 : n2 ≤ 1000000)
    (ml : MkA w7 lv n (.int .i64 (-7))) (mx : MkA w7 x (n + 1) (.int .i64 (-7))) (my : MkA w7 y (n + 2) (.int .i64 (-7))) (mz : MkA w7 z (n + 3) (.int .i64 (-7)))
    (a7 : ∀ u, u = lv ∨ u = x ∨ u = y ∨ u = z → ∀ k, u.ownBlock = some k → k ≠ B ∧ k < w7.heap.size ∧ L2.ownBlock ≠ some k)
    (hb : Below w7.heap.size w7 w8) (hk2 : ∀ k, lv2.ownBlock = some k → w7.heap.size ≤ k)
    (P2 : NumPost w8 w9 B (.slice none 0 0) (.slice none 0 0) (.slice none 0 0) (.slice none 0 0) (.slice none 0 0) L2 4 [lv, x, y, z] lv2 n2 (.int .i64 (-8))) :
    ∃ L vs, w9.heap[B]? = some (.cells #[.slice none 0 0, L, .slice none 0 0, .slice none 0 0, .slice none 0 0, .slice none 0 0] 39 (0, 0)) ∧ w9.ownsRow 0 48 1 L 8 vs ∧
      ∀ i, i < 8 → ∃ k, k ≤ 2000000 ∧ MkA w9 (vs.getD i undef) k (.int .i64 (-7 - (i : Int) / 4)) := by
  obtain ⟨L, x', y', z', hB, ho, ml', mx', my', mz', _, _⟩ := P2.ends
  have keep : ∀ {u : Value} {k : Nat}, (u = lv ∨ u = x ∨ u = y ∨ u = z) → MkA w7 u k (.int .i64 (-7)) → MkA w9 u k (.int .i64 (-7)) := by
    intro u k hu h
    refine (h.below hb).far (fun g e hlt => ?_)
    obtain ⟨h1, h2, h3⟩ := a7 u hu g e
    exact P2.far g hlt h1 (fun e2 => by have := hk2 g e2.symm; omega) (fun e2 => h3 e2.symm)
  refine ⟨L, [lv, x, y, z, lv2, x', y', z'], hB, by simpa using ho, ?_⟩
  intro i hi
  match i, hi with
  | 0, _ => exact ⟨n, by omega, keep (.inl rfl) ml⟩
  | 1, _ => exact ⟨n + 1, by omega, keep (.inr (.inl rfl)) mx⟩
  | 2, _ => exact ⟨n + 2, by omega, keep (.inr (.inr (.inl rfl))) my⟩
  | 3, _ => exact ⟨n + 3, by omega, keep (.inr (.inr (.inr rfl))) mz⟩
  | 4, _ => exact ⟨n2, by omega, ml'⟩
  | 5, _ => exact ⟨n2 + 1, by omega, mx'⟩
  | 6, _ => exact ⟨n2 + 2, by omega, my'⟩
  | 7, _ => exact ⟨n2 + 3, by omega, mz'⟩
theorem FullRow.room {w : World} {g o : Nat} {p : List Int} (h : FullRow w g o p) : ∃ cur, w.heap[g]? = some (.cells cur 3 (0, 0)) ∧ o + p.length ≤ cur.size := by
  obtain ⟨cur, h1, h2, _⟩ := h
  exact ⟨cur, h1, h2⟩
theorem unp_len {l : List UInt8} {p : List Int} {lf : Bool} (h : unpL l = some (p, lf)) : p.length ≤ 128 := by
  cases l with
  | nil => simp [unpL] at h
  | cons b r =>
    have hl := nibs_length r
    simp only [unpL] at h
    split at h
    · split at h
      · rename_i hc
        simp only [Option.some.injEq, Prod.mk.injEq] at h
        rw [← h.1]; simp [hl]; omega
      · cases h
    · split at h
      · rename_i hc
        simp only [Option.some.injEq, Prod.mk.injEq] at h
        rw [← h.1, hl]; omega
      · cases h

set_option maxRecDepth 100000 in
set_option maxHeartbeats 3200000 in
theorem paths_none (ao : Option Addr) (cap : Nat) (zs : List Int) (leaf : Bool) (s : ByteArray) (w : World) (hz : zs.length ≤ 1048576) (hs : s.size ≤ 1048576) (hc : Ints w ao zs) (hnil : ao = none → cap = 0) (hu : unpL s.data.toList = none) :
    Calls Try.prog 5 #[.slice ao zs.length cap, .bool leaf, .string s] w fun e w' => e = .returned (.bool true) ∧ Below w.heap.size w w' := by
  obtain ⟨N, M, hN, hM, hmk⟩ : ∃ (N : Nat) (M : List Value), Hid (N = zs.length + 1) ∧ Hid (M = List.replicate (zs.length + 1) (.int .i64 0)) ∧ ∀ w : World, (Instr.makeSlice 48 (.int .i64 ((zs.length : Int) + 1)) (.int .i64 ((zs.length : Int) + 1))).run Try.prog w =
    .ok (.slice (some ⟨w.heap.size, 0, none⟩) N N) (w.alloc (.cells M.toArray 3)) := ⟨zs.length + 1, _, rfl, rfl, fun w => by
      have := make_ints (zs.length + 1) (by omega) w
      rw [show ((zs.length + 1 : Nat) : Int) = (zs.length : Int) + 1 from by omega] at this
      rw [this]
      rw [← toList_madeCells_one]⟩
  have HU := hide hu
  have HC := hide hc
  have HNL := hide hnil
  clear hu hc hnil
  go_enter Try.func5, Try.ntmps5
  have b0 : (zs.length : Int) < (N : Int) := by have := hN.out; omega
  have b1 : (N : Int) = (zs.length : Int) + 1 := by have := hN.out; omega
  have HN1 := hide b1
  clear b1
  obtain ⟨w1, hcopy, hrow, hb1⟩ := copy_in w ao cap N zs M hN.out hM.out HC.out
  obtain ⟨hL, hcn, hfn⟩ := lent_mk hM.out hrow hb1
  have HL := hide hL
  clear hrow hb1 hL
  go_wp2_with fail
  obtain ⟨W, hW⟩ : ∃ W, w1.setCell ⟨w.heap.size + 1, zs.length, none⟩ (.int .i64 (-77)) = W := ⟨_, rfl⟩
  rw [hW] at HL ⊢
  clear hW hcn hfn hcopy hmk
  refine (cPack_any _ N zs leaf W (by omega) HL.out.ints (fun h => by cases h)).mono ?_
  rintro e w2 ⟨rfl, hb2⟩
  have HB2 : Hid (Below W.heap.size W w2) := hb2
  clear hb2
  go_wp2_with fail
  refine (rPack_any ao cap zs leaf w2 (by omega) ((HC.out.keep HL.out.below).keep HB2.out) HNL.out).mono ?_
  rintro e w3 ⟨rfl, hb3⟩
  have HB3 : Hid (Below W.heap.size W w3) := HB2.out.trans (hb3.mono HB2.out.size)
  clear hb3 HB2
  generalize packR leaf zs = PR
  go_wp2_with fail
  refine (sameNumbers_eq (some ⟨w.heap.size + 1, 0, none⟩) ao N cap zs w3 (by omega) (HL.out.ints.keep HB3.out) ((HC.out.keep HL.out.below).keep HB3.out)).mono ?_
  rintro e w4 ⟨rfl, q, rfl⟩
  have hlast : w3.cell? ⟨w.heap.size + 1, zs.length, none⟩ = some (.int .i64 (-77)) := by
    have h := HL.out.last
    rw [HB3.out.cell (p := ⟨w.heap.size + 1, zs.length, none⟩) (World.block_lt_of_cell? W _ h)]; exact h
  go_wp2_with fail
  clear hlast
  have HB4 : Hid (Below W.heap.size W (w3.drewN q)) := below_drewN HB3.out q
  generalize w3.drewN q = w4 at *
  clear HB3
  refine (cUnpack_none s w4 (by omega) HU.out).mono ?_
  rintro e w5 ⟨rfl, hb5⟩
  have HB5 : Hid (Below W.heap.size W w5) := HB4.out.trans (hb5.mono HB4.out.size)
  clear hb5 HB4
  go_wp2_with fail
  refine (rUnpack_none s w5 (by omega) HU.out).mono ?_
  rintro e w6 ⟨rfl, hb6⟩
  have HB6 : Hid (Below W.heap.size W w6) := HB5.out.trans (hb6.mono HB5.out.size)
  clear hb6 HB5
  go_wp2_with fail
  refine (sameNumbers_eq none none 0 0 [] w6 (by simp) Ints.nil Ints.nil).mono ?_
  rintro e w7 ⟨rfl, q7, rfl⟩
  have HB7 : Hid (Below W.heap.size W (w6.drewN q7)) := below_drewN HB6.out q7
  generalize w6.drewN q7 = w7 at *
  clear HB6
  go_wp2_with fail
  refine (numbers_nil (.slice none 0 0) w.heap.size (.slice none 0 0) (.slice none 0 0) (.slice none 0 0) (.slice none 0 0) (.slice none 0 0) 0 0 [] w7 (by rw [HB7.out.block _ (by have := HL.out.book; exact (Array.getElem?_eq_some_iff.1 this).1)]; exact HL.out.book) (World.ownsRow_nil _ _ _ _) (by omega) (by omega) (by omega) (by simp [Value.ownBlock])).mono ?_
  rintro e w8 ⟨rfl, P1⟩
  have HP1 := hide P1
  obtain ⟨L2, x, y, z, hbk, hoL, ml, mx, my, mz, ha, ha2⟩ := P1.ends
  have HE := hide (And.intro hbk (And.intro hoL (And.intro ml (And.intro mx (And.intro my (And.intro mz (And.intro ha ha2)))))))
  clear P1 hbk hoL ml mx my mz ha ha2
  go_wp2_with fail
  refine (cUnpack_none s w8 (by omega) HU.out).mono ?_
  rintro e w9 ⟨rfl, hb9⟩
  have HB9 : Hid (Below w8.heap.size w8 w9) := hb9
  clear hb9
  go_wp2_with fail
  refine (sameNumbers_eq none none 0 0 [] w9 (by simp) Ints.nil Ints.nil).mono ?_
  rintro e w10 ⟨rfl, q10, rfl⟩
  have HB10 : Hid (Below w8.heap.size w8 (w9.drewN q10)) := below_drewN HB9.out q10
  generalize w9.drewN q10 = w10 at *
  clear HB9
  go_wp2_with fail
  refine (numbers_nil L2 w.heap.size (.slice none 0 0) (.slice none 0 0) (.slice none 0 0) (.slice none 0 0) (.slice none 0 0) 4 1 [.slice none 0 0, x, y, z] w10 (by rw [HB10.out.block _ (Array.getElem?_eq_some_iff.1 HE.out.1).1]; exact HE.out.1) (own_far (by simpa using HE.out.2.1) (fun g _ hlt => HB10.out.block g hlt)) (by omega) (by omega) (by omega) (fun e => (HE.out.2.2.2.2.2.2.2 _ e).1 rfl)).mono ?_
  rintro e w11 ⟨rfl, P2⟩
  have HP2 := hide P2
  have HK := hide (booked (B := w.heap.size) (n := 0) (n2 := 0) (by omega) (by omega) HE.out.2.2.1 HE.out.2.2.2.1 HE.out.2.2.2.2.1 HE.out.2.2.2.2.2.1 (fun u hu k e => ⟨(HE.out.2.2.2.2.2.2.1 u hu k e).1, (HE.out.2.2.2.2.2.2.1 u hu k e).2.1, (HE.out.2.2.2.2.2.2.1 u hu k e).2.2.1⟩) HB10.out (fun k e => by simp [Value.ownBlock] at e) P2)
  clear P2
  obtain ⟨LL, vs, kb, ko, kv⟩ := HK.out
  have HKB := hide (And.intro kb (And.intro ko kv))
  clear kb ko kv HK
  go_wp2_with fail
  refine (looks_of w.heap.size (.slice none 0 0) LL w11 HKB.out.1 ?_).mono ?_
  · rintro w' ⟨n', rfl⟩
    refine (small_nums w.heap.size LL (.slice none 0 0) (.slice none 0 0) (.slice none 0 0) (.slice none 0 0) 8 vs (w11.drewN n') HKB.out.1 HKB.out.2.1 (by omega) HKB.out.2.2).mono ?_
    rintro e w' ⟨rfl, rfl⟩
    exact ⟨rfl, n', rfl⟩
  rintro e w12 ⟨rfl, q12, rfl⟩
  have HFin : Hid (Below w.heap.size w (w11.drewN q12)) := by
    refine below_drewN ?_ q12
    have hw : w.heap.size ≤ W.heap.size := HL.out.below.size
    have h8 : Below w.heap.size w w8 := HP1.out.under (HL.out.below.trans (HB7.out.mono hw)) (Nat.le_trans hw HB7.out.size) (Nat.le_refl _) (fun k e => by simp [Value.ownBlock] at e) (fun k e => by simp [Value.ownBlock] at e)
    refine HP2.out.under (h8.trans (HB10.out.mono h8.size)) (Nat.le_trans h8.size HB10.out.size) (Nat.le_refl _) (fun k e => by simp [Value.ownBlock] at e) (fun k e => ?_)
    rcases (HE.out.2.2.2.2.2.2.2 k e).2.2 with h | h
    · simp [Value.ownBlock] at h
    · exact Nat.le_trans (Nat.le_trans hw HB7.out.size) h
  go_wp2_with fail
  refine (num_any _ _).mono ?_
  rintro e w13 ⟨rfl, rfl⟩
  go_wp2_with fail
  refine (num_any _ _).mono ?_
  rintro e w13 ⟨rfl, rfl⟩
  go_wp2
  go_ret
  exact ⟨rfl, HFin.out⟩


set_option maxRecDepth 100000 in
set_option maxHeartbeats 3200000 in
theorem paths_some (ao : Option Addr) (cap : Nat) (zs : List Int) (leaf : Bool) (s : ByteArray) (w : World) (hz : zs.length ≤ 1048576) (hs : s.size ≤ 1048576) (hc : Ints w ao zs) (hnil : ao = none → cap = 0) (p : List Int) (lf : Bool) (hu : unpL s.data.toList = some (p, lf)) :
    Calls Try.prog 5 #[.slice ao zs.length cap, .bool leaf, .string s] w fun e w' => e = .returned (.bool true) ∧ Below w.heap.size w w' := by
  obtain ⟨N, M, hN, hM, hmk⟩ : ∃ (N : Nat) (M : List Value), Hid (N = zs.length + 1) ∧ Hid (M = List.replicate (zs.length + 1) (.int .i64 0)) ∧ ∀ w : World, (Instr.makeSlice 48 (.int .i64 ((zs.length : Int) + 1)) (.int .i64 ((zs.length : Int) + 1))).run Try.prog w =
    .ok (.slice (some ⟨w.heap.size, 0, none⟩) N N) (w.alloc (.cells M.toArray 3)) := ⟨zs.length + 1, _, rfl, rfl, fun w => by
      have := make_ints (zs.length + 1) (by omega) w
      rw [show ((zs.length + 1 : Nat) : Int) = (zs.length : Int) + 1 from by omega] at this
      rw [this]
      rw [← toList_madeCells_one]⟩
  have HU := hide hu
  have HC := hide hc
  have HNL := hide hnil
  clear hu hc hnil
  go_enter Try.func5, Try.ntmps5
  have b0 : (zs.length : Int) < (N : Int) := by have := hN.out; omega
  have b1 : (N : Int) = (zs.length : Int) + 1 := by have := hN.out; omega
  have HN1 := hide b1
  clear b1
  obtain ⟨w1, hcopy, hrow, hb1⟩ := copy_in w ao cap N zs M hN.out hM.out HC.out
  obtain ⟨hL, hcn, hfn⟩ := lent_mk hM.out hrow hb1
  have HL := hide hL
  clear hrow hb1 hL
  go_wp2_with fail
  obtain ⟨W, hW⟩ : ∃ W, w1.setCell ⟨w.heap.size + 1, zs.length, none⟩ (.int .i64 (-77)) = W := ⟨_, rfl⟩
  rw [hW] at HL ⊢
  clear hW hcn hfn hcopy hmk
  refine (cPack_any _ N zs leaf W (by omega) HL.out.ints (fun h => by cases h)).mono ?_
  rintro e w2 ⟨rfl, hb2⟩
  have HB2 : Hid (Below W.heap.size W w2) := hb2
  clear hb2
  go_wp2_with fail
  refine (rPack_any ao cap zs leaf w2 (by omega) ((HC.out.keep HL.out.below).keep HB2.out) HNL.out).mono ?_
  rintro e w3 ⟨rfl, hb3⟩
  have HB3 : Hid (Below W.heap.size W w3) := HB2.out.trans (hb3.mono HB2.out.size)
  clear hb3 HB2
  generalize packR leaf zs = PR
  go_wp2_with fail
  refine (sameNumbers_eq (some ⟨w.heap.size + 1, 0, none⟩) ao N cap zs w3 (by omega) (HL.out.ints.keep HB3.out) ((HC.out.keep HL.out.below).keep HB3.out)).mono ?_
  rintro e w4 ⟨rfl, q, rfl⟩
  have hlast : w3.cell? ⟨w.heap.size + 1, zs.length, none⟩ = some (.int .i64 (-77)) := by
    have h := HL.out.last
    rw [HB3.out.cell (p := ⟨w.heap.size + 1, zs.length, none⟩) (World.block_lt_of_cell? W _ h)]; exact h
  go_wp2_with fail
  clear hlast
  have HB4 : Hid (Below W.heap.size W (w3.drewN q)) := below_drewN HB3.out q
  generalize w3.drewN q = w4 at *
  clear HB3
  have hpl := unp_len HU.out
  refine (cUnpack_some s w4 p lf HU.out).mono ?_
  rintro e w5 ⟨gl, ol, rfl, hol, hgl5, hb5⟩
  have HOL := hide hol
  have HGL := hide hgl5
  have HB45 : Hid (Below w4.heap.size w4 w5) := hb5
  have HB5 : Hid (Below W.heap.size W w5) := HB4.out.trans (hb5.mono HB4.out.size)
  clear hb5 hol hgl5
  go_wp2_with fail
  refine (rUnpack_some s w5 (by omega) p lf HU.out).mono ?_
  rintro e w6 ⟨am, cm, rfl, him, hfm, hb6⟩
  have HIM := hide him
  have HFM := hide hfm
  have HB56 : Hid (Below w5.heap.size w5 w6) := hb6
  have HB6 : Hid (Below W.heap.size W w6) := HB5.out.trans (hb6.mono HB5.out.size)
  clear hb6 him hfm
  go_wp2_with fail
  refine (sameNumbers_eq (some ⟨gl, ol, none⟩) am p.length cm p w6 (by omega) (HOL.out.ints.keep HB56.out) HIM.out).mono ?_
  rintro e w7 ⟨rfl, q7, rfl⟩
  have HB7 : Hid (Below W.heap.size W (w6.drewN q7)) := below_drewN HB6.out q7
  have HB57 : Hid (Below w5.heap.size w5 (w6.drewN q7)) := below_drewN HB56.out q7
  have HIM7 : Hid (Ints (w6.drewN q7) am p) := HIM.out
  generalize w6.drewN q7 = w7 at *
  have HW4 : Hid (W.heap.size ≤ w4.heap.size) := HB4.out.size
  have HW5 : Hid (w4.heap.size ≤ gl ∧ gl < w5.heap.size) := ⟨HGL.out, HOL.out.lt⟩
  clear HB6 HIM HB56
  have HBK : Hid (w.heap.size < W.heap.size) := (Array.getElem?_eq_some_iff.1 HL.out.book).1
  go_wp2_with fail
  refine (numbers_full (.slice none 0 0) w.heap.size (.slice none 0 0) (.slice none 0 0) (.slice none 0 0) (.slice none 0 0) (.slice none 0 0) 0 0 [] (.slice (some ⟨gl, ol, none⟩) p.length p.length) p.length gl ol rfl w7 (by rw [HB7.out.block _ HBK.out]; exact HL.out.book) (World.ownsRow_nil _ _ _ _) (by omega) (by omega) (by omega) ((HOL.out.keep (HB57.out.block gl HW5.out.2)).room) (by omega) (fun e => by
    have h1 : gl = w.heap.size := by simpa [Value.ownBlock] using e
    have := HW5.out; have := HW4.out; have := HBK.out; omega) (by simp [Value.ownBlock]) (.inl rfl)).mono ?_
  rintro e w8 ⟨rfl, P1⟩
  have HP1 := hide P1
  obtain ⟨L2, x, y, z, hbk, hoL, ml, mx, my, mz, ha, ha2⟩ := P1.ends
  have HE := hide (And.intro hbk (And.intro hoL (And.intro ml (And.intro mx (And.intro my (And.intro mz (And.intro ha ha2)))))))
  clear P1 hbk hoL ml mx my mz ha ha2
  have HIM8 : Hid (Ints w8 am p) := by
    by_cases h0 : 0 < p.length
    · obtain ⟨b, off, h1, h2, h3⟩ := HIM7.out.row h0
      refine .inr ⟨b, off, h1, fun j hj => ?_⟩
      have hbge : w5.heap.size ≤ b := HFM.out _ h1
      have h5 := HW5.out
      rw [World.cell?_of_block (w := w7) (a := ⟨b, off + j, none⟩) (HP1.out.far b h2 (by have := HW4.out; have := HBK.out; omega) (fun e => by
        have : b = gl := by simpa [Value.ownBlock] using e
        omega) (by simp [Value.ownBlock]))]
      exact h3 j hj
    · exact .inl (List.length_eq_zero_iff.1 (by omega))
  go_wp2_with fail
  refine (cUnpack_some s w8 p lf HU.out).mono ?_
  rintro e w9 ⟨gk, ok, rfl, hok, hgk9, hb9⟩
  have HOK := hide hok
  have HGK := hide hgk9
  have HB9 : Hid (Below w8.heap.size w8 w9) := hb9
  clear hb9 hok hgk9
  go_wp2_with fail
  refine (sameNumbers_eq (some ⟨gk, ok, none⟩) am p.length cm p w9 (by omega) HOK.out.ints (HIM8.out.keep HB9.out)).mono ?_
  rintro e w10 ⟨rfl, q10, rfl⟩
  have HB10 : Hid (Below w8.heap.size w8 (w9.drewN q10)) := below_drewN HB9.out q10
  have HOK10 : Hid (FullRow (w9.drewN q10) gk ok p) := HOK.out
  generalize w9.drewN q10 = w10 at *
  have HK8 : Hid (w8.heap.size ≤ gk) := HGK.out
  have HB8 : Hid (w.heap.size < w8.heap.size) := (Array.getElem?_eq_some_iff.1 HE.out.1).1
  clear HB9 HOK
  go_wp2_with fail
  refine (numbers_full L2 w.heap.size (.slice none 0 0) (.slice none 0 0) (.slice none 0 0) (.slice none 0 0) (.slice none 0 0) 4 1 [.slice (some ⟨gl, ol, none⟩) p.length p.length, x, y, z] (.slice (some ⟨gk, ok, none⟩) p.length p.length) p.length gk ok rfl w10 (by rw [HB10.out.block _ HB8.out]; exact HE.out.1) (own_far (by simpa using HE.out.2.1) (fun g _ hlt => HB10.out.block g hlt)) (by omega) (by omega) (by omega) HOK10.out.room (by omega) (fun e => by
    have h1 : gk = w.heap.size := by simpa [Value.ownBlock] using e
    have := HK8.out; have := HB8.out; omega) (fun e => (HE.out.2.2.2.2.2.2.2 _ e).1 rfl) (.inr (fun e => by
    have h1 : L2.ownBlock = some gk := e
    have := (HE.out.2.2.2.2.2.2.2 _ h1).2.1; have := HK8.out; omega))).mono ?_
  rintro e w11 ⟨rfl, P2⟩
  have HP2 := hide P2
  have HK := hide (booked (B := w.heap.size) (n := p.length) (n2 := p.length) (by omega) (by omega) HE.out.2.2.1 HE.out.2.2.2.1 HE.out.2.2.2.2.1 HE.out.2.2.2.2.2.1 (fun u hu k e => ⟨(HE.out.2.2.2.2.2.2.1 u hu k e).1, (HE.out.2.2.2.2.2.2.1 u hu k e).2.1, (HE.out.2.2.2.2.2.2.1 u hu k e).2.2.1⟩) HB10.out (fun k e => by
    have h1 : gk = k := by simpa [Value.ownBlock] using e
    have := HK8.out; omega) P2)
  clear P2
  obtain ⟨LL, vs, kb, ko, kv⟩ := HK.out
  have HKB := hide (And.intro kb (And.intro ko kv))
  clear kb ko kv HK
  go_wp2_with fail
  refine (looks_of w.heap.size (.slice none 0 0) LL w11 HKB.out.1 ?_).mono ?_
  · rintro w' ⟨n', rfl⟩
    refine (small_nums w.heap.size LL (.slice none 0 0) (.slice none 0 0) (.slice none 0 0) (.slice none 0 0) 8 vs (w11.drewN n') HKB.out.1 HKB.out.2.1 (by omega) HKB.out.2.2).mono ?_
    rintro e w' ⟨rfl, rfl⟩
    exact ⟨rfl, n', rfl⟩
  rintro e w12 ⟨rfl, q12, rfl⟩
  have HFin : Hid (Below w.heap.size w (w11.drewN q12)) := by
    refine below_drewN ?_ q12
    have hw : w.heap.size ≤ W.heap.size := HL.out.below.size
    have h8 : Below w.heap.size w w8 := HP1.out.under (HL.out.below.trans (HB7.out.mono hw)) (Nat.le_trans hw HB7.out.size) (Nat.le_refl _) (fun k e => by
      have h1 : gl = k := by simpa [Value.ownBlock] using e
      have := HW5.out; have := HW4.out; omega) (fun k e => by simp [Value.ownBlock] at e)
    refine HP2.out.under (h8.trans (HB10.out.mono h8.size)) (Nat.le_trans h8.size HB10.out.size) (Nat.le_refl _) (fun k e => by
      have h1 : gk = k := by simpa [Value.ownBlock] using e
      have := HK8.out; have := HB8.out; omega) (fun k e => ?_)
    rcases (HE.out.2.2.2.2.2.2.2 k e).2.2 with h | h
    · simp [Value.ownBlock] at h
    · exact Nat.le_trans (Nat.le_trans hw HB7.out.size) h
  go_wp2_with fail
  refine (num_any _ _).mono ?_
  rintro e w13 ⟨rfl, rfl⟩
  go_wp2_with fail
  refine (num_any _ _).mono ?_
  rintro e w13 ⟨rfl, rfl⟩
  go_wp2
  go_ret
  exact ⟨rfl, HFin.out⟩

end Go.Proofs.Ytoafiieciiijbaa
