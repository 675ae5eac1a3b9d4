/-
  DERIVED. GIVEN WITH THE SEED: THE CARDS: each row of YtgepjjebjhidiaaGreatDoorRows.lean that lists a variable, with what it lists TIED to the program's text (the seventh form; the later family's looks); each row that meets fmt, with fmt's text TOLD by the authors' own Lean function (tested against real Go, not proved from fmt's source: count such statements apart). THE CARD IS WHAT COUNTS. Prove the row's statement (the work); the ties are given (YtgepjjebjhidiaaGreatDoorTie.lean); close each card by the builder's one call (the guide's Derived/Test/ToyasCard.lean, 'card_holds'). Laid BY PROGRAM, IN A SANDBOX (cutbox-door.mjs). By AI agents, Wed Nov 11 2026. No macro, syntax, notation, axiom, sorry.
-/
import Derived.Test.YtgepjjebjhidiaaGreatDoorRows
import GoSem.ClaimSeven
namespace Go.Proofs.YtgepjjebjhidiaaGreatDoor
namespace Rows

/-- THE TIED CARD OF 'canopykeep.Mapped'. -/
def mappedCard : Claim7 := { stood := { row := mappedRow, standIns := [], harness := (true, "c69ae4edc77559a100393f657822002fa9863354e34e32fbb09b5c5c93e4bc81"), looks := true }, kinds := [], alts := [], laidByText := true, laidKinds := [.data, .data], laidTests := true, laidLooks := .later }
def MappedCardSaid : Prop := Claim7.holds Tryz.pinned (.plain (OpenSpec.ofChange mappedSpec)) mappedCard

/-- THE TIED CARD OF 'canopykeep.Orders'. -/
def ordersCard : Claim7 := { stood := { row := ordersRow, standIns := [], harness := (true, "c69ae4edc77559a100393f657822002fa9863354e34e32fbb09b5c5c93e4bc81"), looks := true }, kinds := [], alts := [], laidByText := true, laidKinds := [.data, .data], laidTests := true, laidLooks := .later }
def OrdersCardSaid : Prop := Claim7.holds Tryz.pinned (.plain (OpenSpec.ofChange ordersSpec)) ordersCard

/-- THE SECOND FORM's CARD OF 'canopykeep.Mapped'. -/
def mappedUptoCard : Claim7 := { stood := { row := mappedUptoRow, standIns := [], harness := (true, "c69ae4edc77559a100393f657822002fa9863354e34e32fbb09b5c5c93e4bc81"), looks := true }, kinds := [], alts := [], laidByText := true, laidKinds := [.data, .data], laidTests := true, laidLooks := .later }
def MappedUptoCardSaid : Prop := Claim7.holds Tryz.pinned (.plain (OpenSpec.upto mappedSpec)) mappedUptoCard

/-- THE SECOND FORM's CARD OF 'canopykeep.Orders'. -/
def ordersUptoCard : Claim7 := { stood := { row := ordersUptoRow, standIns := [], harness := (true, "c69ae4edc77559a100393f657822002fa9863354e34e32fbb09b5c5c93e4bc81"), looks := true }, kinds := [], alts := [], laidByText := true, laidKinds := [.data, .data], laidTests := true, laidLooks := .later }
def OrdersUptoCardSaid : Prop := Claim7.holds Tryz.pinned (.plain (OpenSpec.upto ordersSpec)) ordersUptoCard
end Rows
end Go.Proofs.YtgepjjebjhidiaaGreatDoor
