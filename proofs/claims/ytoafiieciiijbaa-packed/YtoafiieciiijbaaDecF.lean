/-
  OUR OWN: what Decode answers, in one form.
-/
import Derived.Test.YtoafiieciiijbaaItemK
namespace Go.Proofs.Ytoafiieciiijbaa
open Go.RowKit

def errOf : Except Int (List Prt) → Int
  | .error x => x
  | .ok _ => 0
def outOf : Except Int (List Prt) → List Prt
  | .error _ => []
  | .ok qs => qs
theorem DecPost.form {res : Except Int (List Prt)} {w w' : World} {e : Ending} (h : DecPost res w e w') : ∃ ao c, e = .returned (.tuple #[.slice ao (outOf res).length c, .int .i64 (errOf res)]) ∧ w'.ownsRow w.heap.size 24 3 (.slice ao (outOf res).length c) (outOf res).length (pcells (outOf res)) ∧ Below w.heap.size w w' := by
  cases res with
  | error x => exact ⟨none, 0, h.1, World.ownsRow_nil _ _ _ _, h.2⟩
  | ok qs =>
    obtain ⟨v, h1, h2, h3⟩ := h
    obtain ⟨ao, c, rfl⟩ : ∃ ao c, v = .slice ao qs.length c := by
      rcases h2.2 with ⟨rfl, h0⟩ | ⟨g, c, cur, rfl, _⟩
      · exact ⟨none, 0, by rw [h0]⟩
      · exact ⟨_, _, rfl⟩
    exact ⟨ao, c, h1, h2, h3⟩
end Go.Proofs.Ytoafiieciiijbaa
