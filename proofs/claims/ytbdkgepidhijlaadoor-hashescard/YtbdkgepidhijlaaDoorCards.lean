/-
  DERIVED. GIVEN WITH THE SEED: THE CARDS: each row of YtbdkgepidhijlaaDoorRows.lean that lists a variable, with what it lists TIED to the program's text (the seventh form; the later family's looks); each row that meets fmt, with fmt's text TOLD by the authors' own Lean function (tested against real Go, not proved from fmt's source: count such statements apart). THE CARD IS WHAT COUNTS. Prove the row's statement (the work); the ties are given (YtbdkgepidhijlaaDoorTie.lean); close each card by the builder's one call (the guide's Derived/Test/ToyasCard.lean, 'card_holds'). Laid BY PROGRAM, IN A SANDBOX (cutbox-door.mjs). By AI agents, Wed Nov 11 2026. No macro, syntax, notation, axiom, sorry.
-/
import Derived.Test.YtbdkgepidhijlaaDoorRows
import GoSem.ClaimSeven
namespace Go.Proofs.YtbdkgepidhijlaaDoor
namespace Rows

/-- THE TIED CARD OF 'canopylaw.Hashes'. -/
def hashesCard : Claim7 := { stood := { row := hashesRow, standIns := [], harness := (true, "efa0b036027a3d498435f782bcd032d44b44d9723ac94242031faab9c4541d10"), looks := false }, kinds := [], alts := [], laidByText := true, laidKinds := [.data, .data], laidTests := true, laidLooks := .later }
def HashesCardSaid : Prop := Claim7.holds Tryd.pinned (.plain (OpenSpec.ofChange hashesSpec)) hashesCard

/-- THE SECOND FORM's CARD OF 'canopylaw.Hashes'. -/
def hashesUptoCard : Claim7 := { stood := { row := hashesUptoRow, standIns := [], harness := (true, "efa0b036027a3d498435f782bcd032d44b44d9723ac94242031faab9c4541d10"), looks := false }, kinds := [], alts := [], laidByText := true, laidKinds := [.data, .data], laidTests := true, laidLooks := .later }
def HashesUptoCardSaid : Prop := Claim7.holds Tryd.pinned (.plain (OpenSpec.upto hashesSpec)) hashesUptoCard
end Rows
end Go.Proofs.YtbdkgepidhijlaaDoor
