/-
  OUR OWN: of PathF: what only some programs have.
-/
import Derived.Test.YtoafiieciiijbaaPathF
import Derived.Test.YtoafiieciiijbaaPathC2
namespace Go.Proofs.Ytoafiieciiijbaa
open Go.RowKit

theorem pPack_any (ao : Option Addr) (cap : Nat) (zs : List Int) (leaf : Bool) (w : World) (hm : zs.length ≤ 9223372036854775807) (hc : Ints w ao zs) (hnil : ao = none → cap = 0) :
    Calls Try.prog 36 #[.slice ao zs.length cap, .bool leaf] w fun e w' => e = .returned (.tuple #[.string (packR leaf zs).1, .int .i64 (packR leaf zs).2]) ∧ Below w.heap.size w w' := by
  by_cases h : isP zs = true
  · rw [packR_good h]
    exact pPack_good ao cap zs leaf w hc hnil h
  · have h := Bool.eq_false_iff.2 h
    rw [packR_bad h]
    by_cases hl : zs.length ≤ 128
    · refine (pPack_bad ao cap zs leaf w hl hc h).mono ?_
      rintro e w' ⟨rfl, rfl⟩
      exact ⟨rfl, Below.refl _ _⟩
    · refine (pPack_long ao zs.length cap leaf w (by omega) hm).mono ?_
      rintro e w' ⟨rfl, rfl⟩
      exact ⟨rfl, Below.refl _ _⟩
set_option maxHeartbeats 400000 in
theorem cPack_any (ao : Option Addr) (cap : Nat) (zs : List Int) (leaf : Bool) (w : World) (hm : zs.length ≤ 9223372036854775807) (hc : Ints w ao zs) (hnil : ao = none → cap = 0) :
    Calls Try.prog 16 #[.slice ao zs.length cap, .bool leaf] w fun e w' => e = .returned (.tuple #[.string (packR leaf zs).1, .int .i64 (packR leaf zs).2]) ∧ Below w.heap.size w w' := by
  go_enter Try.func16, Try.ntmps16
  go_wp2_with fail
  refine (pPack_any ao cap zs leaf w hm hc hnil).mono ?_
  rintro e w1 ⟨rfl, hb⟩
  go_wp2
  go_ret2
  exact ⟨rfl, hb⟩
end Go.Proofs.Ytoafiieciiijbaa
