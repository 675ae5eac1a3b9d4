/-
  OUR OWN: the plain mathematics of paths. Imports nothing of the dump.
-/
import Derived.Test.YtoafiieciiijbaaLaws
namespace Go.Proofs.Ytoafiieciiijbaa
open Go.RowKit

/-- is it a number of a path? -/
def nib (n : Int) : Bool := decide (0 ≤ n) && decide (n ≤ 15)
/-- the path test, of a list -/
def isP (zs : List Int) : Bool := decide (zs.length ≤ 128) && zs.all nib

theorem isP_long {zs : List Int} (h : 128 < zs.length) : isP zs = false := by
  simp [isP]; omega
theorem all_take_succ (f : Int → Bool) (zs : List Int) (k : Nat) (h : k < zs.length) : (zs.take (k+1)).all f = ((zs.take k).all f && f (zs.getD k 0)) := by
  rw [List.take_succ_eq_append_getElem h, List.all_append]
  simp [List.getD_eq_getElem?_getD, h]
theorem isP_bad {zs : List Int} {k : Nat} (h : k < zs.length) (hb : nib (zs.getD k 0) = false) : isP zs = false := by
  have : zs.all nib = false := by
    rw [List.all_eq_false]
    refine ⟨zs[k], List.getElem_mem h, ?_⟩
    simpa [List.getD_eq_getElem?_getD, h] using hb
  simp [isP, this]
theorem isP_good {zs : List Int} (h : zs.length ≤ 128) (ha : (zs.take zs.length).all nib = true) : isP zs = true := by
  rw [List.take_length] at ha
  simp [isP, h, ha]

/-- two numbers a byte -/
def pairUp : List Int → List Int
  | a :: b :: r => (16 * a + b) :: pairUp r
  | _ => []
theorem pairUp_length : ∀ (n : Nat) (zs : List Int), zs.length = 2 * n → (pairUp zs).length = n
  | 0, [], _ => rfl
  | n + 1, a :: b :: r, h => by
    simp only [pairUp, List.length_cons]
    rw [pairUp_length n r (by simp at h; omega)]
  | 0, _ :: _, h => by simp at h
  | n + 1, [], h => by simp at h
  | n + 1, [_], h => by simp at h; omega
theorem pairUp_getD : ∀ (n k : Nat) (zs : List Int), zs.length = 2 * n → k < n → (pairUp zs).getD k 0 = 16 * zs.getD (2 * k) 0 + zs.getD (2 * k + 1) 0
  | n + 1, 0, a :: b :: r, h, _ => by simp [pairUp]
  | n + 1, k + 1, a :: b :: r, h, hk => by
    have := pairUp_getD n k r (by simp at h; omega) (by omega)
    simp only [pairUp, List.getD_cons_succ, this]
    rw [show 2 * (k + 1) = (2 * k + 1) + 1 from by omega]
    simp only [List.getD_cons_succ]
  | 0, _, _, _, hk => by omega
  | n + 1, _, [], h, _ => by simp at h
  | n + 1, _, [_], h, _ => by simp at h; omega

theorem or_nib_fin : ∀ x y : Fin 16, bits BinOp.or IntKind.i64 ((x.val : Int) * 16) (y.val : Int) % 256 = 16 * (x.val : Int) + (y.val : Int) := by decide +kernel
theorem or_nib (x y : Int) (x1 : 0 ≤ x) (x2 : x ≤ 15) (y1 : 0 ≤ y) (y2 : y ≤ 15) : bits BinOp.or IntKind.i64 (x * 16) y % 256 = 16 * x + y := by
  obtain ⟨a, rfl⟩ := Int.eq_ofNat_of_zero_le x1
  obtain ⟨b, rfl⟩ := Int.eq_ofNat_of_zero_le y1
  exact or_nib_fin ⟨a, by omega⟩ ⟨b, by omega⟩

/-- the halves of a path's code -/
def mk (leaf : Bool) : Int := if leaf then 2 else 0
def halvesOf (leaf : Bool) (zs : List Int) : List Int := if zs.length % 2 = 1 then (mk leaf + 1) :: zs else mk leaf :: 0 :: zs
theorem halvesOf_odd {leaf : Bool} {zs : List Int} (h : zs.length % 2 = 1) : halvesOf leaf zs = (mk leaf + 1) :: zs := by simp [halvesOf, h]
theorem halvesOf_even {leaf : Bool} {zs : List Int} (h : zs.length % 2 = 0) : halvesOf leaf zs = mk leaf :: 0 :: zs := by simp [halvesOf, h]
theorem halvesOf_length (leaf : Bool) (zs : List Int) : (halvesOf leaf zs).length = 2 * (zs.length / 2 + 1) := by
  unfold halvesOf; split <;> simp <;> omega

end Go.Proofs.Ytoafiieciiijbaa
