/-
  OUR OWN: PathC.
-/
import Derived.Test.YtkegignigkhleaaDoorG06
import Derived.Laws.BytesArg
namespace Go.Proofs.YtkegignigkhleaaDoor
open Go.RowKit

/-- a path's code -/
def codeOf (leaf : Bool) (zs : List Int) : ByteArray := strOfNums (pairUp (halvesOf leaf zs))

theorem isP_len {zs : List Int} (h : isP zs = true) : zs.length ≤ 128 := by simp [isP] at h; exact h.1
theorem isP_nib {zs : List Int} (h : isP zs = true) : ∀ j, j < zs.length → 0 ≤ zs.getD j 0 ∧ zs.getD j 0 ≤ 15 := by
  intro j hj
  simp [isP] at h
  have := h.2 zs[j] (List.getElem_mem hj)
  simpa [nib, List.getD_eq_getElem?_getD, hj] using this
theorem halvesOf_nib {leaf : Bool} {zs : List Int} (h : ∀ j, j < zs.length → 0 ≤ zs.getD j 0 ∧ zs.getD j 0 ≤ 15) : ∀ j, j < (halvesOf leaf zs).length → 0 ≤ (halvesOf leaf zs).getD j 0 ∧ (halvesOf leaf zs).getD j 0 ≤ 15 := by
  intro j hj
  have hm : 0 ≤ mk leaf ∧ mk leaf ≤ 2 := by cases leaf <;> simp [mk]
  by_cases ho : zs.length % 2 = 1
  · rw [halvesOf_odd ho] at hj ⊢
    cases j with
    | zero => simp; omega
    | succ j => simpa using h j (by simpa using hj)
  · rw [halvesOf_even (by omega)] at hj ⊢
    match j with
    | 0 => simp; omega
    | 1 => simp
    | j + 2 => simpa using h j (by simpa using hj)

end Go.Proofs.YtkegignigkhleaaDoor
