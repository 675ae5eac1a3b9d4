/-
  NARROWER THAN 'FOR EVERY INPUT', by the rows' own cells (each row's printed sentence says how): Maps: laid · Roots: laid · Stores: laid · All: laid.
  DERIVED. THE GIVEN ROWS OF THIS SEAT. 4 by the template 'for every input the law returns true; each argument reads behind the call as it read before'; 0 by the template 'total and deterministic' (their statements: YthdjmldddjljfaaGreatDoorTotals.lean).
  GIVEN WITH THE SEED: the statements are not yours to turn. If you find one false, say at which input.
  Laid BY PROGRAM, IN A SANDBOX (cutbox-rows.mjs): the forced cells as the released guide's own fill.sh prints them over the translation 0e61a839b38ee5b9… (all of the seat's roots in one cut). By AI agents, Wed Nov 11 2026. No macro, syntax, notation, axiom, sorry.
-/
import Derived.Test.YthdjmldddjljfaaGreatDoorChecked
import GoSem.Claim
import GoSem.ClaimJoined
import GoSem.ClaimMapViews
import Derived.JoinedTies
import Derived.KernelRfl
namespace Go.Proofs.YthdjmldddjljfaaGreatDoor
/- THE CELL 'sum', in the pinned program and in every row, IS THE sha256 OF THE DUMP (.gsa) THAT YthdjmldddjljfaaGreatDoorProg.lean LOADS. Nothing in Lean hashes anything: it is a label: what it is worth is what the hold of that sum in a sandbox is worth. -/
noncomputable def Tryz.pinned : Pinned := { name := "ythdjmldddjljfaagreatdoor", sum := "0e61a839b38ee5b9993dd042f6b09a9a7f5153719d46316be04f748cc9d5e9c6", checked := Tryz.checked }
namespace Rows
def none {H : Type} : Left H := { results := [], args := [] }

/- WHAT THE LISTED PACKAGE-LEVEL VARIABLES READ AS WHEN THE CALL BEGINS. Each datum BY PROGRAM (the guide's laid-datum.mjs) off the statement by which the dump's own 'gosem.cut.vars' lays the variable. In a bare row this is a premise. The card (YthdjmldddjljfaaGreatDoorCards.lean) ties it to the program's text. -/
def laid_canopy_keccak_roundConstants {H : Type} : DataW H := .agg [.lit (.int .u64 1), .lit (.int .u64 32898), .lit (.int .u64 9223372036854808714), .lit (.int .u64 9223372039002292224), .lit (.int .u64 32907), .lit (.int .u64 2147483649), .lit (.int .u64 9223372039002292353), .lit (.int .u64 9223372036854808585), .lit (.int .u64 138), .lit (.int .u64 136), .lit (.int .u64 2147516425), .lit (.int .u64 2147483658), .lit (.int .u64 2147516555), .lit (.int .u64 9223372036854775947), .lit (.int .u64 9223372036854808713), .lit (.int .u64 9223372036854808579), .lit (.int .u64 9223372036854808578), .lit (.int .u64 9223372036854775936), .lit (.int .u64 32778), .lit (.int .u64 9223372039002259466), .lit (.int .u64 9223372039002292353), .lit (.int .u64 9223372036854808704), .lit (.int .u64 2147483649), .lit (.int .u64 9223372039002292232)]
def laid_canopy_keccak_turns {H : Type} : DataW H := .agg [.lit (.int .i64 0), .lit (.int .i64 1), .lit (.int .i64 62), .lit (.int .i64 28), .lit (.int .i64 27), .lit (.int .i64 36), .lit (.int .i64 44), .lit (.int .i64 6), .lit (.int .i64 55), .lit (.int .i64 20), .lit (.int .i64 3), .lit (.int .i64 10), .lit (.int .i64 43), .lit (.int .i64 25), .lit (.int .i64 39), .lit (.int .i64 41), .lit (.int .i64 45), .lit (.int .i64 15), .lit (.int .i64 21), .lit (.int .i64 8), .lit (.int .i64 18), .lit (.int .i64 2), .lit (.int .i64 61), .lit (.int .i64 56), .lit (.int .i64 14)]

/-- 'canopylaw.Maps': WHATEVER THE INPUT: true; the input reads as it did. -/
def mapsSpec : ChangeSpec := { name := "maps", fn := fun _ => fun
  | [d1, d2, d3] => { results := [.lit (.bool true)], args := [d1, d2, d3] }
  | _ => none }
def mapsRow : OpenClaim := { program := "ythdjmldddjljfaagreatdoor", sum := "0e61a839b38ee5b9993dd042f6b09a9a7f5153719d46316be04f748cc9d5e9c6", func := "canopy/canopylaw.Maps", spec := "maps", inPlace := ["internal/bytealg.abigen_runtime_cmpstring"], unfollowed := true, recurses := true, named := ["canopy/keccak.roundConstants", "canopy/keccak.turns"], apart := false, laid := [("canopy/keccak.roundConstants", laid_canopy_keccak_roundConstants), ("canopy/keccak.turns", laid_canopy_keccak_turns)] }
def MapsSaid : Prop := mapsRow.holds Tryz.pinned (OpenSpec.ofChange mapsSpec)

/-- ITS FALSE NEIGHBOUR: 'it returns false'. Refute it at one input. -/
def mapsWrong : ChangeSpec := { name := "maps", fn := fun _ => fun
  | [d1, d2, d3] => { results := [.lit (.bool false)], args := [d1, d2, d3] }
  | _ => none }
def MapsWrongFalsely : Prop := mapsRow.holds Tryz.pinned (OpenSpec.ofChange mapsWrong)

/-- 'canopylaw.Roots': WHATEVER THE INPUT: true; the input reads as it did. -/
def rootsSpec : ChangeSpec := { name := "roots", fn := fun _ => fun
  | [d] => { results := [.lit (.bool true)], args := [d] }
  | _ => none }
def rootsRow : OpenClaim := { program := "ythdjmldddjljfaagreatdoor", sum := "0e61a839b38ee5b9993dd042f6b09a9a7f5153719d46316be04f748cc9d5e9c6", func := "canopy/canopylaw.Roots", spec := "roots", inPlace := ["internal/bytealg.abigen_runtime_cmpstring"], unfollowed := true, recurses := true, named := ["canopy/keccak.roundConstants", "canopy/keccak.turns"], apart := false, laid := [("canopy/keccak.roundConstants", laid_canopy_keccak_roundConstants), ("canopy/keccak.turns", laid_canopy_keccak_turns)] }
def RootsSaid : Prop := rootsRow.holds Tryz.pinned (OpenSpec.ofChange rootsSpec)

/-- ITS FALSE NEIGHBOUR: 'it returns false'. Refute it at one input. -/
def rootsWrong : ChangeSpec := { name := "roots", fn := fun _ => fun
  | [d] => { results := [.lit (.bool false)], args := [d] }
  | _ => none }
def RootsWrongFalsely : Prop := rootsRow.holds Tryz.pinned (OpenSpec.ofChange rootsWrong)

/-- 'canopylaw.Stores': WHATEVER THE INPUT: true; the input reads as it did. -/
def storesSpec : ChangeSpec := { name := "stores", fn := fun _ => fun
  | [d1, d2, d3] => { results := [.lit (.bool true)], args := [d1, d2, d3] }
  | _ => none }
def storesRow : OpenClaim := { program := "ythdjmldddjljfaagreatdoor", sum := "0e61a839b38ee5b9993dd042f6b09a9a7f5153719d46316be04f748cc9d5e9c6", func := "canopy/canopylaw.Stores", spec := "stores", inPlace := ["internal/bytealg.abigen_runtime_cmpstring"], unfollowed := true, recurses := true, named := ["canopy/keccak.roundConstants", "canopy/keccak.turns"], apart := false, laid := [("canopy/keccak.roundConstants", laid_canopy_keccak_roundConstants), ("canopy/keccak.turns", laid_canopy_keccak_turns)] }
def StoresSaid : Prop := storesRow.holds Tryz.pinned (OpenSpec.ofChange storesSpec)

/-- ITS FALSE NEIGHBOUR: 'it returns false'. Refute it at one input. -/
def storesWrong : ChangeSpec := { name := "stores", fn := fun _ => fun
  | [d1, d2, d3] => { results := [.lit (.bool false)], args := [d1, d2, d3] }
  | _ => none }
def StoresWrongFalsely : Prop := storesRow.holds Tryz.pinned (OpenSpec.ofChange storesWrong)

/-- 'canopylaw.All': WHATEVER THE INPUT: true; the input reads as it did. -/
def allSpec : ChangeSpec := { name := "all", fn := fun _ => fun
  | [d1, d2, d3] => { results := [.lit (.bool true)], args := [d1, d2, d3] }
  | _ => none }
def allRow : OpenClaim := { program := "ythdjmldddjljfaagreatdoor", sum := "0e61a839b38ee5b9993dd042f6b09a9a7f5153719d46316be04f748cc9d5e9c6", func := "canopy/canopylaw.All", spec := "all", inPlace := ["internal/bytealg.abigen_runtime_cmpstring"], unfollowed := true, recurses := true, named := ["canopy/keccak.roundConstants", "canopy/keccak.turns"], apart := false, laid := [("canopy/keccak.roundConstants", laid_canopy_keccak_roundConstants), ("canopy/keccak.turns", laid_canopy_keccak_turns)] }
def AllSaid : Prop := allRow.holds Tryz.pinned (OpenSpec.ofChange allSpec)

/-- ITS FALSE NEIGHBOUR: 'it returns false'. Refute it at one input. -/
def allWrong : ChangeSpec := { name := "all", fn := fun _ => fun
  | [d1, d2, d3] => { results := [.lit (.bool false)], args := [d1, d2, d3] }
  | _ => none }
def AllWrongFalsely : Prop := allRow.holds Tryz.pinned (OpenSpec.ofChange allWrong)

/- THE SECOND FORM. 'bulk': how many values and letters a reading holds, each counted each time it is reached (what is shared counts as often as it is met; a slice's spare places count too). A statement '..UptoSaid' is the law's where the arguments, and the package variables that the reading takes, are together of bulk at most 1048576: NARROWER than '..Said'. Prove '..Said' where nothing that the law and all that it calls make is longer than what came in: it says more and counts as full. Else prove '..UptoSaid'. A law counts once. -/
mutual
def uptoBulk {H : Type} : DataW H → Nat
  | .lit (.string bytes) => bytes.length + 1
  | .lit _ => 1
  | .nil => 1
  | .ptr d => uptoBulk d + 1
  | .slice elems spare => uptoBulkAll elems + uptoBulkAll spare + 1
  | .agg parts => uptoBulkAll parts + 1
  | .iface _ d => uptoBulk d + 1
  | .map entries => uptoBulkEntries entries + 1
  | .held _ => 1
def uptoBulkAll {H : Type} : List (DataW H) → Nat
  | [] => 0
  | d :: r => uptoBulk d + uptoBulkAll r
def uptoBulkEntries {H : Type} : List (Lit × DataW H) → Nat
  | [] => 0
  | x :: r => uptoBulkEntry x + uptoBulkEntries r
def uptoBulkEntry {H : Type} : Lit × DataW H → Nat
  | (.string bytes, d) => bytes.length + uptoBulk d + 1
  | (_, d) => uptoBulk d + 1
 end
def uptoSmall : (H : Type) → List (DataW H) → Bool := fun _ ds => decide (uptoBulkAll ds ≤ 1048576)
def OpenSpec.upto (s : _root_.Go.ChangeSpec) : _root_.Go.OpenSpec := { _root_.Go.OpenSpec.ofChange s with cond := some uptoSmall }

/-- 'canopylaw.Maps', WHERE WHAT IT READS IS OF BULK AT MOST 1048576: true; the input reads as it did. -/
def mapsUptoRow : OpenClaim := { program := "ythdjmldddjljfaagreatdoor", sum := "0e61a839b38ee5b9993dd042f6b09a9a7f5153719d46316be04f748cc9d5e9c6", func := "canopy/canopylaw.Maps", spec := "maps", inPlace := ["internal/bytealg.abigen_runtime_cmpstring"], unfollowed := true, recurses := true, named := ["canopy/keccak.roundConstants", "canopy/keccak.turns"], apart := false, laid := [("canopy/keccak.roundConstants", laid_canopy_keccak_roundConstants), ("canopy/keccak.turns", laid_canopy_keccak_turns)], narrowed := true }
def MapsUptoSaid : Prop := mapsUptoRow.holds Tryz.pinned (OpenSpec.upto mapsSpec)

/-- 'canopylaw.Roots', WHERE WHAT IT READS IS OF BULK AT MOST 1048576: true; the input reads as it did. -/
def rootsUptoRow : OpenClaim := { program := "ythdjmldddjljfaagreatdoor", sum := "0e61a839b38ee5b9993dd042f6b09a9a7f5153719d46316be04f748cc9d5e9c6", func := "canopy/canopylaw.Roots", spec := "roots", inPlace := ["internal/bytealg.abigen_runtime_cmpstring"], unfollowed := true, recurses := true, named := ["canopy/keccak.roundConstants", "canopy/keccak.turns"], apart := false, laid := [("canopy/keccak.roundConstants", laid_canopy_keccak_roundConstants), ("canopy/keccak.turns", laid_canopy_keccak_turns)], narrowed := true }
def RootsUptoSaid : Prop := rootsUptoRow.holds Tryz.pinned (OpenSpec.upto rootsSpec)

/-- 'canopylaw.Stores', WHERE WHAT IT READS IS OF BULK AT MOST 1048576: true; the input reads as it did. -/
def storesUptoRow : OpenClaim := { program := "ythdjmldddjljfaagreatdoor", sum := "0e61a839b38ee5b9993dd042f6b09a9a7f5153719d46316be04f748cc9d5e9c6", func := "canopy/canopylaw.Stores", spec := "stores", inPlace := ["internal/bytealg.abigen_runtime_cmpstring"], unfollowed := true, recurses := true, named := ["canopy/keccak.roundConstants", "canopy/keccak.turns"], apart := false, laid := [("canopy/keccak.roundConstants", laid_canopy_keccak_roundConstants), ("canopy/keccak.turns", laid_canopy_keccak_turns)], narrowed := true }
def StoresUptoSaid : Prop := storesUptoRow.holds Tryz.pinned (OpenSpec.upto storesSpec)

/-- 'canopylaw.All', WHERE WHAT IT READS IS OF BULK AT MOST 1048576: true; the input reads as it did. -/
def allUptoRow : OpenClaim := { program := "ythdjmldddjljfaagreatdoor", sum := "0e61a839b38ee5b9993dd042f6b09a9a7f5153719d46316be04f748cc9d5e9c6", func := "canopy/canopylaw.All", spec := "all", inPlace := ["internal/bytealg.abigen_runtime_cmpstring"], unfollowed := true, recurses := true, named := ["canopy/keccak.roundConstants", "canopy/keccak.turns"], apart := false, laid := [("canopy/keccak.roundConstants", laid_canopy_keccak_roundConstants), ("canopy/keccak.turns", laid_canopy_keccak_turns)], narrowed := true }
def AllUptoSaid : Prop := allUptoRow.holds Tryz.pinned (OpenSpec.upto allSpec)

end Rows
end Go.Proofs.YthdjmldddjljfaaGreatDoor
