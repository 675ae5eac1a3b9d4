/-
  OUR OWN: plain facts for canopyref.permuted.
-/
import Derived.Test.YtbdkgepidhijlaaDoorKecH
namespace Go.Proofs.YtbdkgepidhijlaaDoor
open Go.RowKit

theorem make_words (n : Nat) (h : n ≤ 1000) (w : World) : (Instr.makeSlice 25 (.int .i64 (n : Int)) (.int .i64 (n : Int))).run Tryd.prog w =
    .ok (.slice (some ⟨w.heap.size, 0, none⟩) n n) (w.alloc (.cells (arr n zeroF) 27)) := by
  obtain ⟨i0, hi, hz0, hz1, hz2⟩ := info_parts info27
  have h := run_make (P := Tryd.prog) w 25 27 i0 (.int .u64 0) Tryd.underlying25 hi hz0 .i64 .i64 (n : Int) (n : Int) (by omega) (Int.le_refl _) (by rw [hz2]; omega) (by omega)
  have e : madeCells #[.int .u64 0] n = arr n zeroF := by
    apply Array.toList_inj.1
    rw [toList_madeCells_one, arr_toList]
    apply List.ext_getElem (by simp)
    intro i h1 h2
    simp [zeroF]
  rw [← e]
  simpa [hz1, Value.cells] using h
theorem make5 (w : World) : (Instr.makeSlice 25 (.int .i64 5) (.int .i64 5)).run Tryd.prog w = .ok (.slice (some ⟨w.heap.size, 0, none⟩) 5 5) (w.alloc (.cells (arr 5 zeroF) 27)) := make_words 5 (by omega) w
theorem make25 (w : World) : (Instr.makeSlice 25 (.int .i64 25) (.int .i64 25)).run Tryd.prog w = .ok (.slice (some ⟨w.heap.size, 0, none⟩) 25 25) (w.alloc (.cells (arr 25 zeroF) 27)) := make_words 25 (by omega) w
theorem turned_one (a : Nat) (w : World) (ha : W64 a) : Calls Tryd.prog 12 #[.int .u64 (a : Nat), .int .i64 1] w fun e w' => e = .returned (.int .u64 (rot a 1 : Nat)) ∧ ∃ n, w' = w.drewN n := turned_any a 1 w ha (by omega)

/-- where the walk over the state stands behind t steps -/
def xt (t : Nat) : Nat := [1, 0, 2, 1, 2, 3, 3, 0, 1, 3, 1, 4, 4, 0, 3, 4, 3, 2, 2, 0, 4, 2, 4, 1, 1].getD t 0
def yt (t : Nat) : Nat := [0, 2, 1, 2, 3, 3, 0, 1, 3, 1, 4, 4, 0, 3, 4, 3, 2, 2, 0, 4, 2, 4, 1, 1, 0].getD t 0
def ns (t : Nat) : Nat := [0, 1, 3, 6, 10, 15, 21, 28, 36, 45, 55, 66, 78, 91, 105, 120, 136, 153, 171, 190, 210, 231, 253, 276, 300].getD t 0
theorem walk_fin : ∀ t : Fin 24, xt (t.val + 1) = yt t.val ∧ yt (t.val + 1) = (2 * xt t.val + 3 * yt t.val) % 5 ∧ ns (t.val + 1) = ns t.val + t.val + 1 ∧ xt t.val < 5 ∧ yt t.val < 5 ∧ ns (t.val + 1) < 1000 ∧ yt (t.val + 1) < 5 := by decide +kernel
def rqG (R : Nat → Nat → Nat) (f : Nat → Nat) : Nat → Nat → Nat
  | 0 => updK zeroF 0 (f 0)
  | t + 1 => updK (rqG R f t) (yt t + 5 * yt (t + 1)) (R (f (xt t + 5 * yt t)) (ns (t + 1) % 64))
def rpG (R : Nat → Nat → Nat) (f : Nat → Nat) : Nat → Nat → Nat
  | 0 => fun _ => 0
  | k + 1 => updK (rpG R f k) (dest k) (R (f k) (tu k))
theorem rpG_rot (f : Nat → Nat) : ∀ k, rpG rot f k = rpTo f k
  | 0 => rfl
  | k + 1 => by simp only [rpG, rpTo, rpG_rot f k]
def rqTo (f : Nat → Nat) : Nat → Nat → Nat := rqG rot f
theorem rqTo_w {f : Nat → Nat} (h : ∀ j, W64 (f j)) : ∀ t j, W64 (rqTo f t j)
  | 0, j => updK_w zeroF_w (h 0) j
  | t + 1, j => updK_w (rqTo_w h t) (rot_w (h _) _) j
theorem rq_at1 (R : Nat → Nat → Nat) (f : Nat → Nat) : rqG R f 24 1 = rpG R f 25 1 := by kernel_rfl
theorem rq_at2 (R : Nat → Nat → Nat) (f : Nat → Nat) : rqG R f 24 2 = rpG R f 25 2 := by kernel_rfl
theorem rq_at3 (R : Nat → Nat → Nat) (f : Nat → Nat) : rqG R f 24 3 = rpG R f 25 3 := by kernel_rfl
theorem rq_at4 (R : Nat → Nat → Nat) (f : Nat → Nat) : rqG R f 24 4 = rpG R f 25 4 := by kernel_rfl
theorem rq_at5 (R : Nat → Nat → Nat) (f : Nat → Nat) : rqG R f 24 5 = rpG R f 25 5 := by kernel_rfl
theorem rq_at6 (R : Nat → Nat → Nat) (f : Nat → Nat) : rqG R f 24 6 = rpG R f 25 6 := by kernel_rfl
theorem rq_at7 (R : Nat → Nat → Nat) (f : Nat → Nat) : rqG R f 24 7 = rpG R f 25 7 := by kernel_rfl
theorem rq_at8 (R : Nat → Nat → Nat) (f : Nat → Nat) : rqG R f 24 8 = rpG R f 25 8 := by kernel_rfl
theorem rq_at9 (R : Nat → Nat → Nat) (f : Nat → Nat) : rqG R f 24 9 = rpG R f 25 9 := by kernel_rfl
theorem rq_at10 (R : Nat → Nat → Nat) (f : Nat → Nat) : rqG R f 24 10 = rpG R f 25 10 := by kernel_rfl
theorem rq_at11 (R : Nat → Nat → Nat) (f : Nat → Nat) : rqG R f 24 11 = rpG R f 25 11 := by kernel_rfl
theorem rq_at12 (R : Nat → Nat → Nat) (f : Nat → Nat) : rqG R f 24 12 = rpG R f 25 12 := by kernel_rfl
theorem rq_at13 (R : Nat → Nat → Nat) (f : Nat → Nat) : rqG R f 24 13 = rpG R f 25 13 := by kernel_rfl
theorem rq_at14 (R : Nat → Nat → Nat) (f : Nat → Nat) : rqG R f 24 14 = rpG R f 25 14 := by kernel_rfl
theorem rq_at15 (R : Nat → Nat → Nat) (f : Nat → Nat) : rqG R f 24 15 = rpG R f 25 15 := by kernel_rfl
theorem rq_at16 (R : Nat → Nat → Nat) (f : Nat → Nat) : rqG R f 24 16 = rpG R f 25 16 := by kernel_rfl
theorem rq_at17 (R : Nat → Nat → Nat) (f : Nat → Nat) : rqG R f 24 17 = rpG R f 25 17 := by kernel_rfl
theorem rq_at18 (R : Nat → Nat → Nat) (f : Nat → Nat) : rqG R f 24 18 = rpG R f 25 18 := by kernel_rfl
theorem rq_at19 (R : Nat → Nat → Nat) (f : Nat → Nat) : rqG R f 24 19 = rpG R f 25 19 := by kernel_rfl
theorem rq_at20 (R : Nat → Nat → Nat) (f : Nat → Nat) : rqG R f 24 20 = rpG R f 25 20 := by kernel_rfl
theorem rq_at21 (R : Nat → Nat → Nat) (f : Nat → Nat) : rqG R f 24 21 = rpG R f 25 21 := by kernel_rfl
theorem rq_at22 (R : Nat → Nat → Nat) (f : Nat → Nat) : rqG R f 24 22 = rpG R f 25 22 := by kernel_rfl
theorem rq_at23 (R : Nat → Nat → Nat) (f : Nat → Nat) : rqG R f 24 23 = rpG R f 25 23 := by kernel_rfl
theorem rq_at24 (R : Nat → Nat → Nat) (f : Nat → Nat) : rqG R f 24 24 = rpG R f 25 24 := by kernel_rfl
theorem rq_at0 (R : Nat → Nat → Nat) (f : Nat → Nat) : rqG R f 24 0 = f 0 := by kernel_rfl
theorem rp_at0 (R : Nat → Nat → Nat) (f : Nat → Nat) : rpG R f 25 0 = R (f 0) 0 := by kernel_rfl
theorem rqG_rpG (R : Nat → Nat → Nat) (f : Nat → Nat) (h0 : R (f 0) 0 = f 0) (j : Nat) (hj : j < 25) : rqG R f 24 j = rpG R f 25 j := by
  rcases (show j = 0 ∨ j = 1 ∨ j = 2 ∨ j = 3 ∨ j = 4 ∨ j = 5 ∨ j = 6 ∨ j = 7 ∨ j = 8 ∨ j = 9 ∨ j = 10 ∨ j = 11 ∨ j = 12 ∨ j = 13 ∨ j = 14 ∨ j = 15 ∨ j = 16 ∨ j = 17 ∨ j = 18 ∨ j = 19 ∨ j = 20 ∨ j = 21 ∨ j = 22 ∨ j = 23 ∨ j = 24 from by omega) with h | h | h | h | h | h | h | h | h | h | h | h | h | h | h | h | h | h | h | h | h | h | h | h | h <;> subst h
  · rw [rq_at0, rp_at0, h0]
  · exact rq_at1 R f
  · exact rq_at2 R f
  · exact rq_at3 R f
  · exact rq_at4 R f
  · exact rq_at5 R f
  · exact rq_at6 R f
  · exact rq_at7 R f
  · exact rq_at8 R f
  · exact rq_at9 R f
  · exact rq_at10 R f
  · exact rq_at11 R f
  · exact rq_at12 R f
  · exact rq_at13 R f
  · exact rq_at14 R f
  · exact rq_at15 R f
  · exact rq_at16 R f
  · exact rq_at17 R f
  · exact rq_at18 R f
  · exact rq_at19 R f
  · exact rq_at20 R f
  · exact rq_at21 R f
  · exact rq_at22 R f
  · exact rq_at23 R f
  · exact rq_at24 R f
theorem rq_rp {f : Nat → Nat} (h : ∀ j, W64 (f j)) : ∀ j, j < 25 → rqTo f 24 j = rpTo f 25 j := by
  intro j hj
  rw [← rpG_rot]
  exact rqG_rpG rot f (rot_zero (h 0)) j hj
theorem thetaR (f : Nat → Nat) (j : Nat) : (f j ^^^ colTo f 25 ((j + 4) % 5)) ^^^ rot (colTo f 25 ((j + 1) % 5)) 1 = thetaF f j := by
  unfold thetaF
  rw [Nat.xor_assoc, show (j % 5 + 4) % 5 = (j + 4) % 5 from by omega, show (j % 5 + 1) % 5 = (j + 1) % 5 from by omega]
theorem chiR (f : Nat → Nat) (j : Nat) : f j ^^^ ((18446744073709551615 - f (j - j % 5 + (j + 1) % 5)) &&& f (j - j % 5 + (j + 2) % 5)) = chiF f j := by
  unfold chiF
  rw [show (j % 5 + 1) % 5 = (j + 1) % 5 from by omega, show (j % 5 + 2) % 5 = (j + 2) % 5 from by omega]
theorem chi_congr {f g : Nat → Nat} (h : ∀ j, j < 25 → f j = g j) : ∀ j, j < 25 → chiF f j = chiF g j := by
  intro j hj
  unfold chiF
  rw [h j hj, h (j - j % 5 + (j % 5 + 1) % 5) (by omega), h (j - j % 5 + (j % 5 + 2) % 5) (by omega)]
end Go.Proofs.YtbdkgepidhijlaaDoor
