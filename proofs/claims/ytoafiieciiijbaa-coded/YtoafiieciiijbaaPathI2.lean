/-
  OUR OWN: of PathI: what only some programs have.
-/
import Derived.Test.YtoafiieciiijbaaPathI
import Derived.Test.YtoafiieciiijbaaPathF2
namespace Go.Proofs.Ytoafiieciiijbaa
open Go.RowKit

set_option maxHeartbeats 400000 in
theorem cUnpack_some (s : ByteArray) (w : World) (p : List Int) (lf : Bool) (hu : unpL s.data.toList = some (p, lf)) :
    Calls Try.prog 19 #[.string s] w fun e w' => ∃ g o, e = .returned (.tuple #[.slice (some ⟨g, o, none⟩) p.length p.length, .bool lf, .int .i64 0]) ∧ FullRow w' g o p ∧ w.heap.size ≤ g ∧ Below w.heap.size w w' := by
  have HU := hide hu
  clear hu
  go_enter Try.func19, Try.ntmps19
  go_wp2_with fail
  refine (pUnpack_some s w p lf HU.out).mono ?_
  rintro e w1 ⟨g, o, rfl, hf, hg, hb⟩
  have HF := hide (And.intro hf (And.intro hg hb))
  clear hf hg hb
  go_wp2
  go_ret3
  exact ⟨g, o, rfl, HF.out.1, HF.out.2.1, HF.out.2.2⟩
set_option maxHeartbeats 400000 in
theorem cUnpack_none (s : ByteArray) (w : World) (hs : s.size ≤ 9223372036854775807) (hu : unpL s.data.toList = none) :
    Calls Try.prog 19 #[.string s] w fun e w' => e = .returned (.tuple #[.slice none 0 0, .bool false, .int .i64 7]) ∧ Below w.heap.size w w' := by
  have HU := hide hu
  clear hu
  go_enter Try.func19, Try.ntmps19
  go_wp2_with fail
  refine (pUnpack_none s w hs HU.out).mono ?_
  rintro e w1 ⟨rfl, hb⟩
  go_wp2
  go_ret3
  exact ⟨rfl, hb⟩
end Go.Proofs.Ytoafiieciiijbaa
