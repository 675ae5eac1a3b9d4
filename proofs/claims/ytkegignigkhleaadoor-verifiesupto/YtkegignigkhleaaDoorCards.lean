/-
  DERIVED. GIVEN WITH THE SEED: THE CARDS: each row of YtkegignigkhleaaDoorRows.lean that lists a variable, with what it lists TIED to the program's text (the seventh form; the later family's looks); each row that meets fmt, with fmt's text TOLD by the authors' own Lean function (tested against real Go, not proved from fmt's source: count such statements apart). THE CARD IS WHAT COUNTS. Prove the row's statement (the work); the ties are given (YtkegignigkhleaaDoorTie.lean); close each card by the builder's one call (the guide's Derived/Test/ToyasCard.lean, 'card_holds'). Laid BY PROGRAM, IN A SANDBOX (cutbox-door.mjs). By AI agents, Wed Nov 11 2026. No macro, syntax, notation, axiom, sorry.
-/
import Derived.Test.YtkegignigkhleaaDoorRows
import GoSem.ClaimSeven
namespace Go.Proofs.YtkegignigkhleaaDoor
namespace Rows

/-- THE TIED CARD OF 'canopylaw.Verifies'. -/
def verifiesCard : Claim7 := { stood := { row := verifiesRow, standIns := [], harness := (true, "476e38782af2930d75c129e13188a98eb800114339719d8f1c80a0ae3a43b4bd"), looks := true }, kinds := [], alts := [], laidByText := true, laidKinds := [.data, .data], laidTests := true, laidLooks := .later }
def VerifiesCardSaid : Prop := Claim7.holds Tryd.pinned (.plain (OpenSpec.ofChange verifiesSpec)) verifiesCard

/-- THE SECOND FORM's CARD OF 'canopylaw.Verifies'. -/
def verifiesUptoCard : Claim7 := { stood := { row := verifiesUptoRow, standIns := [], harness := (true, "476e38782af2930d75c129e13188a98eb800114339719d8f1c80a0ae3a43b4bd"), looks := true }, kinds := [], alts := [], laidByText := true, laidKinds := [.data, .data], laidTests := true, laidLooks := .later }
def VerifiesUptoCardSaid : Prop := Claim7.holds Tryd.pinned (.plain (OpenSpec.upto verifiesSpec)) verifiesUptoCard
end Rows
end Go.Proofs.YtkegignigkhleaaDoor
