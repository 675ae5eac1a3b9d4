/-
  DERIVED. GIVEN WITH THE SEED: THE CARDS: each row of YthdjmldddjljfaaGreatDoorRows.lean that lists a variable, with what it lists TIED to the program's text (the seventh form; the later family's looks); each row that meets fmt, with fmt's text TOLD by the authors' own Lean function (tested against real Go, not proved from fmt's source: count such statements apart). THE CARD IS WHAT COUNTS. Prove the row's statement (the work); the ties are given (YthdjmldddjljfaaGreatDoorTie.lean); close each card by the builder's one call (the guide's Derived/Test/ToyasCard.lean, 'card_holds'). Laid BY PROGRAM, IN A SANDBOX (cutbox-door.mjs). By AI agents, Wed Nov 11 2026. No macro, syntax, notation, axiom, sorry.
-/
import Derived.Test.YthdjmldddjljfaaGreatDoorRows
import GoSem.ClaimSeven
namespace Go.Proofs.YthdjmldddjljfaaGreatDoor
namespace Rows

/-- THE TIED CARD OF 'canopylaw.Maps'. -/
def mapsCard : Claim7 := { stood := { row := mapsRow, standIns := [], harness := (true, "74acbd1219e075b32f71bac1e0bb5aee95b448523deba69cf1fd62f1f7b38c49"), looks := true }, kinds := [], alts := [], laidByText := true, laidKinds := [.data, .data], laidTests := true, laidLooks := .later }
def MapsCardSaid : Prop := Claim7.holds Tryz.pinned (.plain (OpenSpec.ofChange mapsSpec)) mapsCard

/-- THE TIED CARD OF 'canopylaw.Roots'. -/
def rootsCard : Claim7 := { stood := { row := rootsRow, standIns := [], harness := (true, "74acbd1219e075b32f71bac1e0bb5aee95b448523deba69cf1fd62f1f7b38c49"), looks := true }, kinds := [], alts := [], laidByText := true, laidKinds := [.data, .data], laidTests := true, laidLooks := .later }
def RootsCardSaid : Prop := Claim7.holds Tryz.pinned (.plain (OpenSpec.ofChange rootsSpec)) rootsCard

/-- THE TIED CARD OF 'canopylaw.Stores'. -/
def storesCard : Claim7 := { stood := { row := storesRow, standIns := [], harness := (true, "74acbd1219e075b32f71bac1e0bb5aee95b448523deba69cf1fd62f1f7b38c49"), looks := true }, kinds := [], alts := [], laidByText := true, laidKinds := [.data, .data], laidTests := true, laidLooks := .later }
def StoresCardSaid : Prop := Claim7.holds Tryz.pinned (.plain (OpenSpec.ofChange storesSpec)) storesCard

/-- THE TIED CARD OF 'canopylaw.All'. -/
def allCard : Claim7 := { stood := { row := allRow, standIns := [], harness := (true, "74acbd1219e075b32f71bac1e0bb5aee95b448523deba69cf1fd62f1f7b38c49"), looks := true }, kinds := [], alts := [], laidByText := true, laidKinds := [.data, .data], laidTests := true, laidLooks := .later }
def AllCardSaid : Prop := Claim7.holds Tryz.pinned (.plain (OpenSpec.ofChange allSpec)) allCard

/-- THE SECOND FORM's CARD OF 'canopylaw.Maps'. -/
def mapsUptoCard : Claim7 := { stood := { row := mapsUptoRow, standIns := [], harness := (true, "74acbd1219e075b32f71bac1e0bb5aee95b448523deba69cf1fd62f1f7b38c49"), looks := true }, kinds := [], alts := [], laidByText := true, laidKinds := [.data, .data], laidTests := true, laidLooks := .later }
def MapsUptoCardSaid : Prop := Claim7.holds Tryz.pinned (.plain (OpenSpec.upto mapsSpec)) mapsUptoCard

/-- THE SECOND FORM's CARD OF 'canopylaw.Roots'. -/
def rootsUptoCard : Claim7 := { stood := { row := rootsUptoRow, standIns := [], harness := (true, "74acbd1219e075b32f71bac1e0bb5aee95b448523deba69cf1fd62f1f7b38c49"), looks := true }, kinds := [], alts := [], laidByText := true, laidKinds := [.data, .data], laidTests := true, laidLooks := .later }
def RootsUptoCardSaid : Prop := Claim7.holds Tryz.pinned (.plain (OpenSpec.upto rootsSpec)) rootsUptoCard

/-- THE SECOND FORM's CARD OF 'canopylaw.Stores'. -/
def storesUptoCard : Claim7 := { stood := { row := storesUptoRow, standIns := [], harness := (true, "74acbd1219e075b32f71bac1e0bb5aee95b448523deba69cf1fd62f1f7b38c49"), looks := true }, kinds := [], alts := [], laidByText := true, laidKinds := [.data, .data], laidTests := true, laidLooks := .later }
def StoresUptoCardSaid : Prop := Claim7.holds Tryz.pinned (.plain (OpenSpec.upto storesSpec)) storesUptoCard

/-- THE SECOND FORM's CARD OF 'canopylaw.All'. -/
def allUptoCard : Claim7 := { stood := { row := allUptoRow, standIns := [], harness := (true, "74acbd1219e075b32f71bac1e0bb5aee95b448523deba69cf1fd62f1f7b38c49"), looks := true }, kinds := [], alts := [], laidByText := true, laidKinds := [.data, .data], laidTests := true, laidLooks := .later }
def AllUptoCardSaid : Prop := Claim7.holds Tryz.pinned (.plain (OpenSpec.upto allSpec)) allUptoCard
end Rows
end Go.Proofs.YthdjmldddjljfaaGreatDoor
