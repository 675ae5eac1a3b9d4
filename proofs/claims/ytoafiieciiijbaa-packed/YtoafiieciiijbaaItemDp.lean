/-
  OUR OWN: items: what a reader answers: plain functions.
-/
import Derived.Test.YtoafiieciiijbaaItemB
import Derived.Test.YtoafiieciiijbaaItemC
import Derived.Test.YtoafiieciiijbaaLawsB
namespace Go.Proofs.Ytoafiieciiijbaa
open Go.RowKit

/-- a part: list, count, data -/
abbrev Prt := Bool × Nat × ByteArray
def pcell (p : Prt) : List Value := [.bool p.1, .int .i64 (p.2.1 : Int), .string p.2.2]
def pcells (ps : List Prt) : List Value := ps.flatMap pcell
theorem pcells_length (ps : List Prt) : (pcells ps).length = ps.length * 3 := by
  induction ps with
  | nil => rfl
  | cons p r ih => simp [pcells, pcell] at ih ⊢; omega
theorem pcells_append (ps qs : List Prt) : pcells (ps ++ qs) = pcells ps ++ pcells qs := by simp [pcells]
theorem pcells_one (p : Prt) : pcells [p] = pcell p := by simp [pcells]

/-- item after item -/
def itemsA (R : Nat → Except Int (List Prt × Nat)) (e : Nat) : Nat → Nat → List Prt → Nat → Except Int (List Prt × Nat)
  | 0, _, acc, n => .ok (acc, n)
  | m + 1, a, acc, n => if a < e then (match R a with
      | .error x => .error x
      | .ok (ps, b) => itemsA R e m b (acc ++ ps) (n + 1)) else .ok (acc, n)

/-- bytes with a head ahead -/
def textN (s : ByteArray) (a limit : Nat) : Except Int (List Prt × Nat) :=
  if (spanN s a (byteN s a - 128) limit).2 ≠ 0 then .error (spanN s a (byteN s a - 128) limit).2
  else if ownC (s.extract (spanN s a (byteN s a - 128) limit).1.1 (spanN s a (byteN s a - 128) limit).1.2) then .error 4
  else .ok ([(false, 0, s.extract (spanN s a (byteN s a - 128) limit).1.1 (spanN s a (byteN s a - 128) limit).1.2)], (spanN s a (byteN s a - 128) limit).1.2)

/-- a list: by what reads its items -/
def listN (inner : Option (Nat → Nat → Except Int (List Prt × Nat))) (st en : Nat) : Except Int (List Prt × Nat) :=
  match inner with
  | none => .error 6
  | some f =>
    match itemsA (fun x => f x en) en (en - st) st [] 0 with
    | .error x => .error x
    | .ok (ps, n) => .ok ((true, n, ⟨#[]⟩) :: ps, en)
def readStep (s : ByteArray) (inner : Option (Nat → Nat → Except Int (List Prt × Nat))) (a limit : Nat) : Except Int (List Prt × Nat) :=
  if limit ≤ a then .error 3
  else if byteN s a < 128 then .ok ([(false, 0, s.extract a (a + 1))], a + 1)
  else if byteN s a < 192 then textN s a limit
  else if (spanN s a (byteN s a - 192) limit).2 ≠ 0 then .error (spanN s a (byteN s a - 192) limit).2
  else listN inner (spanN s a (byteN s a - 192) limit).1.1 (spanN s a (byteN s a - 192) limit).1.2
/-- the item at a place, inside of 8 - r lists: its parts, and where it ends; or the error -/
def readN (s : ByteArray) : Nat → Nat → Nat → Except Int (List Prt × Nat)
  | 0 => readStep s none
  | r + 1 => readStep s (some (readN s r))
def innerN (s : ByteArray) : Nat → Option (Nat → Nat → Except Int (List Prt × Nat))
  | 0 => none
  | r + 1 => some (readN s r)
theorem readN_eq (s : ByteArray) (r : Nat) : readN s r = readStep s (innerN s r) := by cases r <;> rfl
end Go.Proofs.Ytoafiieciiijbaa
