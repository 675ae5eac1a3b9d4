/-
  OUR OWN: codes: laws on folds of parts; measures and codes.
-/
import Derived.Test.YtoafiieciiijbaaEncG
import Derived.Test.YtoafiieciiijbaaEncFp
import Derived.Test.YtoafiieciiijbaaItemP
namespace Go.Proofs.Ytoafiieciiijbaa
open Go.RowKit

/-- what an item in memory comes to -/
theorem ItIs.val {w : World} {ok : Nat → Prop} : ∀ (r : Nat) (cs : List Value) (qs : List Prt), ItIs r w ok cs qs → ∀ {T : Type} (txt : ByteArray → T) (lst : List T → T), ∃ x : T, Vl txt lst qs x
  | 0, cs, qs, h, T, txt, lst => by obtain ⟨b, _, rfl⟩ := h; exact ⟨_, Vl.text txt lst b⟩
  | r + 1, cs, qs, h, T, txt, lst => by
    rcases h with ⟨b, _, rfl⟩ | ⟨v, css, pss, _, _, _, hl, hi, rfl⟩
    · exact ⟨_, Vl.text txt lst b⟩
    · obtain ⟨xs, h1, h2⟩ := vals txt lst pss (fun i hlt => ItIs.val r _ _ (hi i (by omega)) txt lst)
      have := Vl.list txt lst pss xs h1 h2
      rw [← hl] at this
      exact ⟨_, this⟩
end Go.Proofs.Ytoafiieciiijbaa
