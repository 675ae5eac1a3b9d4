/-
  OUR OWN: TwA.
-/
import Derived.Test.YtkegignigkhleaaDoorProg
import Derived.Test.YtkegignigkhleaaDoorG04
import Derived.Test.YtkegignigkhleaaDoorG01
import Derived.WalkKit
import Derived.WalkSpells
import Derived.WalkLawsBesides
import Derived.BigQuiet
import Derived.Deep.QuietTactic
import Derived.Deep.RegionHeld3
import Derived.Deep.DrawnRows
import Derived.Lib.SliceRun
namespace Go.Proofs.YtkegignigkhleaaDoor
open Go.RowKit
attribute [local go_sem ↓] Go.wp_at_zero Go.wp_at_succ

def numV (n : Nat) : Value := .int .i64 (n : Int)
/-- a path in memory -/
structure Nums (w : World) (ao : Option Addr) (p : List Nat) : Prop where
  spot : ∀ a, ao = some a → a.spot = none
  at' : ∀ k, k < p.length → ∃ b off, ao = some ⟨b, off, none⟩ ∧ w.cell? ⟨b, off + k, none⟩ = some (.int .i64 ((p.getD k 0 : Nat) : Int))
theorem Nums.keep {w w' : World} {ao : Option Addr} {p : List Nat} (h : Nums w ao p) {B : Nat} (hb : Below B w w') (hB : w.heap.size ≤ B) : Nums w' ao p := ⟨h.spot, fun k hk => by
  obtain ⟨b, off, h1, h2⟩ := h.at' k hk
  have hl := World.block_lt_of_cell? w _ h2
  exact ⟨b, off, h1, (World.cell?_of_block (w := w) (w' := w') (a := ⟨b, off + k, none⟩) (hb.block b (Nat.lt_of_lt_of_le hl hB))).trans h2⟩⟩
theorem Nums.nil {w : World} {ao : Option Addr} (h : ∀ a, ao = some a → a.spot = none) : Nums w ao [] := ⟨h, fun k hk => by simp at hk⟩
theorem Nums.own {w : World} {base e n c : Nat} {ao : Option Addr} {p : List Nat} (h : w.ownsRow base e 1 (.slice ao n c) n (p.map numV)) : Nums w ao p := by
  refine ⟨fun a ha => ?_, fun k hk => ?_⟩
  · rcases h.2 with ⟨h1, _⟩ | ⟨g, c', cur, hh, _⟩
    · injection h1 with h1 _ _; rw [ha] at h1; cases h1
    · injection hh with hh1 _ _; rw [ha] at hh1; injection hh1 with hh1; rw [hh1]
  rcases h.2 with ⟨_, h0⟩ | ⟨g, c', cur, hh, _⟩
  · have := h.1
    simp at this; omega
  · injection hh with hh1 _ _
    have h2 := h.cells (g := g) (by rw [hh1]; rfl) k (numV (p.getD k 0)) (by simp [List.getD_eq_getElem?_getD, hk])
    rw [addr_add] at h2
    exact ⟨g, 0, hh1, h2⟩
theorem Nums.reads {w : World} {ao : Option Addr} {p : List Nat} (h : Nums w ao p) (cap : Nat) (h0 : ao = none → p = [] ∧ cap = 0) : Reads w (.slice ao p.length cap) p.length (p.map numV) := by
  cases ao with
  | none =>
    obtain ⟨rfl, rfl⟩ := h0 rfl
    exact .inl ⟨rfl, rfl, rfl⟩
  | some a =>
    refine .inr ⟨a, cap, rfl, fun j u hu => ?_⟩
    have hj : j < p.length := by have := (List.getElem?_eq_some_iff.1 hu).1; simpa using this
    obtain ⟨b, off, h1, h2⟩ := h.at' j hj
    obtain rfl : a = ⟨b, off, none⟩ := by simpa using h1
    rw [addr_add, h2]
    have e : (p.map numV)[j]? = some (numV (p.getD j 0)) := by simp [List.getD_eq_getElem?_getD, hj]
    rw [e] at hu
    exact hu
theorem Nums.drop {w : World} {b off : Nat} {p : List Nat} (h : Nums w (some ⟨b, off, none⟩) p) (n : Nat) : Nums w (some ⟨b, off + n, none⟩) (p.drop n) := ⟨fun a e => by injection e with e; rw [← e], fun k hk => by
  rw [List.length_drop] at hk
  obtain ⟨b', off', h1, h2⟩ := h.at' (n + k) (by omega)
  obtain ⟨rfl, rfl⟩ : b = b' ∧ off = off' := by simpa using h1
  refine ⟨b, off + n, rfl, ?_⟩
  rw [Nat.add_assoc, h2]
  simp [List.getD_eq_getElem?_getD, List.getElem?_drop]⟩
theorem Nums.take {w : World} {ao : Option Addr} {p : List Nat} (h : Nums w ao p) (n : Nat) : Nums w ao (p.take n) := ⟨h.spot, fun k hk => by
  rw [List.length_take] at hk
  obtain ⟨b, off, h1, h2⟩ := h.at' k (by omega)
  refine ⟨b, off, h1, ?_⟩
  rw [h2]
  have hk2 : k < n := by omega
  simp [List.getD_eq_getElem?_getD, hk2]⟩

def ptr (b : Nat) : Value := .pointer (some ⟨b, 0, none⟩)
/-- a branch's cells -/
def brCell (us : Nat → Value) (hs : Nat → ByteArray) (x : ByteArray) (j : Nat) : Value := if j = 32 then .string x else if j % 2 = 0 then us (j / 2) else .string (hs (j / 2))
def brCells (us : Nat → Value) (hs : Nat → ByteArray) (x : ByteArray) : Array Value := ((List.range 33).map (brCell us hs x)).toArray
theorem brCells_size (us : Nat → Value) (hs : Nat → ByteArray) (x : ByteArray) : (brCells us hs x).size = 33 := by simp [brCells]
theorem brCells_get (us : Nat → Value) (hs : Nat → ByteArray) (x : ByteArray) (j : Nat) (h : j < 33) : (brCells us hs x)[j]? = some (brCell us hs x j) := by simp [brCells, h]
def updV {α : Type} (f : Nat → α) (i : Nat) (x : α) : Nat → α := fun j => if j = i then x else f j
theorem brCells_none (us : Nat → Value) (hs : Nat → ByteArray) (x : ByteArray) (j : Nat) (h : 33 ≤ j) : (brCells us hs x)[j]? = none := Array.getElem?_eq_none (by rw [brCells_size]; exact h)
theorem brCells_set (us : Nat → Value) (hs : Nat → ByteArray) (x : ByteArray) (i : Nat) (hi : i < 16) (u : Value) (h : ByteArray) : ((brCells us hs x).setIfInBounds (i * 2) u).setIfInBounds (i * 2 + 1) (.string h) = brCells (updV us i u) (updV hs i h) x := by
  apply Array.ext_getElem?
  intro j
  by_cases hj : j < 33
  · rw [brCells_get _ _ _ j hj, Array.getElem?_setIfInBounds, Array.size_setIfInBounds, brCells_size]
    by_cases c1 : i * 2 + 1 = j
    · rw [if_pos c1, if_pos (by omega)]
      unfold brCell updV
      rw [if_neg (by omega), if_neg (by omega), if_pos (by omega)]
    · rw [if_neg c1, Array.getElem?_setIfInBounds, brCells_size]
      by_cases c2 : i * 2 = j
      · rw [if_pos c2, if_pos (by omega)]
        unfold brCell updV
        rw [if_neg (by omega), if_pos (by omega), if_pos (by omega)]
      · rw [if_neg c2, brCells_get _ _ _ j hj]
        unfold brCell updV
        by_cases c3 : j = 32
        · rw [if_pos c3, if_pos c3]
        · rw [if_neg c3, if_neg c3]
          by_cases c4 : j % 2 = 0
          · rw [if_pos c4, if_pos c4, if_neg (by omega)]
          · rw [if_neg c4, if_neg c4, if_neg (by omega)]
  · rw [brCells_none _ _ _ j (by omega), Array.getElem?_eq_none (by simp only [Array.size_setIfInBounds, brCells_size]; omega)]
theorem brCells_val (us : Nat → Value) (hs : Nat → ByteArray) (x y : ByteArray) : (brCells us hs x).setIfInBounds 32 (.string y) = brCells us hs y := by
  apply Array.ext_getElem?
  intro j
  by_cases hj : j < 33
  · rw [brCells_get _ _ _ j hj, Array.getElem?_setIfInBounds, brCells_size]
    by_cases c1 : 32 = j
    · rw [if_pos c1, if_pos (by omega)]
      unfold brCell
      rw [if_pos c1.symm]
    · rw [if_neg c1, brCells_get _ _ _ j hj]
      have c2 : ¬ j = 32 := fun e => c1 e.symm
      unfold brCell
      simp only [c2, if_false]
  · rw [brCells_none _ _ _ j (by omega), Array.getElem?_eq_none (by simp only [Array.size_setIfInBounds, brCells_size]; omega)]
theorem br_ref {w : World} {b : Nat} {us : Nat → Value} {hs : Nat → ByteArray} {x : ByteArray} (h : w.heap[b]? = some (.cells (brCells us hs x) 142 (0, 0))) (i : Nat) (hi : i < 16) : w.cell? ⟨b, i * 2, none⟩ = some (us i) ∧ w.cell? ⟨b, i * 2 + 1, none⟩ = some (.string (hs i)) := by
  constructor
  · rw [cell_of_row w b _ _ _ (0, 0) h, brCells_get _ _ _ _ (by omega)]
    unfold brCell
    rw [if_neg (by omega), if_pos (by omega), show i * 2 / 2 = i from by omega]
  · rw [cell_of_row w b _ _ _ (0, 0) h, brCells_get _ _ _ _ (by omega)]
    unfold brCell
    rw [if_neg (by omega), if_neg (by omega), show (i * 2 + 1) / 2 = i from by omega]
theorem br_val {w : World} {b : Nat} {us : Nat → Value} {hs : Nat → ByteArray} {x : ByteArray} (h : w.heap[b]? = some (.cells (brCells us hs x) 142 (0, 0))) : w.cell? ⟨b, 32, none⟩ = some (.string x) := by
  rw [cell_of_row w b _ _ _ (0, 0) h, brCells_get _ _ _ _ (by omega)]
  rfl
/-- a path's block is one of these -/
def PathIn (ok : Nat → Prop) (ao : Option Addr) (p : List Nat) : Prop := ∀ a, ao = some a → p ≠ [] → ok a.block
theorem Nums.lt {w : World} {ao : Option Addr} {p : List Nat} (h : Nums w ao p) : PathIn (fun b => b < w.heap.size) ao p := fun a e hn => by
  obtain ⟨b, off, h1, h2⟩ := h.at' 0 (List.length_pos_iff.2 hn)
  obtain rfl : a = ⟨b, off, none⟩ := by rw [e] at h1; simpa using h1
  exact World.block_lt_of_cell? w _ h2
theorem Nums.keepIn {w w' : World} {ao : Option Addr} {p : List Nat} {ok : Nat → Prop} (h : Nums w ao p) (hp : PathIn ok ao p) (hk : ∀ b, ok b → b < w.heap.size → w'.heap[b]? = w.heap[b]?) : Nums w' ao p := ⟨h.spot, fun k hk' => by
  obtain ⟨b, off, h1, h2⟩ := h.at' k hk'
  have hl := World.block_lt_of_cell? w _ h2
  exact ⟨b, off, h1, (World.cell?_of_block (w := w) (w' := w') (a := ⟨b, off + k, none⟩) (hk b (hp _ h1 (fun e => by rw [e] at hk'; simp at hk')) hl)).trans h2⟩⟩
/-- a node in memory; a hash that is kept is one that the node may have -/
def NdAt (Hk : Nd → ByteArray → Prop) (ok : Nat → Prop) (w : World) : Nd → Value → Prop
  | .nil => fun v => v = .nilIface
  | .leaf p x => fun v => ∃ b ao cap, v = .iface 133 (ptr b) ∧ ok b ∧ PathIn ok ao p ∧ w.heap[b]? = some (.cells #[Value.slice ao p.length cap, .string x] 135 (0, 0)) ∧ Nums w ao p ∧ (ao = none → cap = 0) ∧ p.length ≤ cap
  | .ext p n => fun v => ∃ b ao cap u h, v = .iface 110 (ptr b) ∧ ok b ∧ PathIn ok ao p ∧ w.heap[b]? = some (.cells #[.slice ao p.length cap, u, .string h] 139 (0, 0)) ∧ Nums w ao p ∧ (ao = none → cap = 0) ∧ p.length ≤ cap ∧ NdAt Hk ok w n u ∧ (h = e0 ∨ Hk n h)
  | .br c x => fun v => ∃ b us hs, v = .iface 112 (ptr b) ∧ ok b ∧ w.heap[b]? = some (.cells (brCells us hs x) 142 (0, 0)) ∧ ∀ i, i < 16 → NdAt Hk ok w (c i) (us i) ∧ (hs i = e0 ∨ (c i ≠ .nil ∧ Hk (c i) (hs i)))
theorem NdAt.keepIn {Hk : Nd → ByteArray → Prop} {ok : Nat → Prop} {w w' : World} (hk : ∀ b, ok b → b < w.heap.size → w'.heap[b]? = w.heap[b]?) : ∀ (n : Nd) (v : Value), NdAt Hk ok w n v → NdAt Hk ok w' n v
  | .nil, _, h => h
  | .leaf _ _, _, ⟨b, ao, cap, h1, o1, o2, h2, h3, h4⟩ => ⟨b, ao, cap, h1, o1, o2, by rw [hk b o1 (Array.getElem?_eq_some_iff.1 h2).1]; exact h2, h3.keepIn o2 hk, h4⟩
  | .ext _ n, _, ⟨b, ao, cap, u, h, h1, o1, o2, h2, h3, h4, h5, h6, h7⟩ => ⟨b, ao, cap, u, h, h1, o1, o2, by rw [hk b o1 (Array.getElem?_eq_some_iff.1 h2).1]; exact h2, h3.keepIn o2 hk, h4, h5, NdAt.keepIn hk n u h6, h7⟩
  | .br c _, _, ⟨b, us, hs, h1, o1, h2, h3⟩ => ⟨b, us, hs, h1, o1, by rw [hk b o1 (Array.getElem?_eq_some_iff.1 h2).1]; exact h2, fun i hi => ⟨NdAt.keepIn hk (c i) (us i) (h3 i hi).1, (h3 i hi).2⟩⟩
theorem NdAt.mono {Hk : Nd → ByteArray → Prop} {ok ok' : Nat → Prop} {w : World} (hk : ∀ b, ok b → ok' b) : ∀ (n : Nd) (v : Value), NdAt Hk ok w n v → NdAt Hk ok' w n v
  | .nil, _, h => h
  | .leaf _ _, _, ⟨b, ao, cap, h1, o1, o2, h2⟩ => ⟨b, ao, cap, h1, hk b o1, fun a e hn => hk _ (o2 a e hn), h2⟩
  | .ext _ n, _, ⟨b, ao, cap, u, h, h1, o1, o2, h2, h3, h4, h5, h6, h7⟩ => ⟨b, ao, cap, u, h, h1, hk b o1, fun a e hn => hk _ (o2 a e hn), h2, h3, h4, h5, NdAt.mono hk n u h6, h7⟩
  | .br c _, _, ⟨b, us, hs, h1, o1, h2, h3⟩ => ⟨b, us, hs, h1, hk b o1, h2, fun i hi => ⟨NdAt.mono hk (c i) (us i) (h3 i hi).1, (h3 i hi).2⟩⟩
theorem NdAt.keep {Hk : Nd → ByteArray → Prop} {ok : Nat → Prop} {w w' : World} {n : Nd} {v : Value} (h : NdAt Hk ok w n v) (hb : Below w.heap.size w w') : NdAt Hk ok w' n v := NdAt.keepIn (fun b _ hl => hb.block b hl) n v h
/-- all of it lies in blocks that there are -/
theorem NdAt.lt {Hk : Nd → ByteArray → Prop} {ok : Nat → Prop} {w : World} : ∀ (n : Nd) (v : Value), NdAt Hk ok w n v → NdAt Hk (fun b => b < w.heap.size) w n v
  | .nil, _, h => h
  | .leaf _ _, _, ⟨b, ao, cap, h1, _, _, h2, h3, h4⟩ => ⟨b, ao, cap, h1, (Array.getElem?_eq_some_iff.1 h2).1, Nums.lt h3, h2, h3, h4⟩
  | .ext _ n, _, ⟨b, ao, cap, u, h, h1, _, _, h2, h3, h4, h5, h6, h7⟩ => ⟨b, ao, cap, u, h, h1, (Array.getElem?_eq_some_iff.1 h2).1, Nums.lt h3, h2, h3, h4, h5, NdAt.lt n u h6, h7⟩
  | .br c _, _, ⟨b, us, hs, h1, _, h2, h3⟩ => ⟨b, us, hs, h1, (Array.getElem?_eq_some_iff.1 h2).1, h2, fun i hi => ⟨NdAt.lt (c i) (us i) (h3 i hi).1, (h3 i hi).2⟩⟩
theorem NdAt.some {Hk : Nd → ByteArray → Prop} {ok : Nat → Prop} {w : World} {n : Nd} {v : Value} (h : NdAt Hk ok w n v) (hn : n ≠ .nil) : ∃ t b, v = .iface t (ptr b) := by
  cases n with
  | nil => exact absurd rfl hn
  | leaf p x => obtain ⟨b, _, _, h1, _⟩ := h; exact ⟨_, b, h1⟩
  | ext p m => obtain ⟨b, _, _, _, _, h1, _⟩ := h; exact ⟨_, b, h1⟩
  | br c x => obtain ⟨b, _, _, h1, _⟩ := h; exact ⟨_, b, h1⟩

theorem isEmpty_yes (b off : Nat) (w : World) (h0 : w.cell? ⟨b, off, none⟩ = some .nilIface) (h1 : w.cell? ⟨b, off + 1, none⟩ = some (.string e0)) :
    Calls Tryd.prog 25 #[.pointer (some ⟨b, off, none⟩)] w fun e w' => e = .returned (.bool true) ∧ w' = w := by
  go_enter Tryd.func25, Tryd.ntmps25
  go_wp2
  go_ret
  exact ⟨rfl, rfl⟩
theorem isEmpty_no (b off : Nat) (t : TypeId) (x : Nat) (w : World) (h0 : w.cell? ⟨b, off, none⟩ = some (.iface t (ptr x))) :
    Calls Tryd.prog 25 #[.pointer (some ⟨b, off, none⟩)] w fun e w' => e = .returned (.bool false) ∧ w' = w := by
  go_enter Tryd.func25, Tryd.ntmps25
  go_wp2
  go_ret
  exact ⟨rfl, rfl⟩

def isNd (v : Value) : Prop := v = .nilIface ∨ ∃ t b, v = .iface t (ptr b)
theorem NdAt.isNd {Hk : Nd → ByteArray → Prop} {ok : Nat → Prop} {w : World} {n : Nd} {v : Value} (h : NdAt Hk ok w n v) : isNd v := by
  cases n with
  | nil => exact .inl h
  | leaf p x => obtain ⟨b, _, _, h1, _⟩ := h; exact .inr ⟨_, b, h1⟩
  | ext p m => obtain ⟨b, _, _, _, _, h1, _⟩ := h; exact .inr ⟨_, b, h1⟩
  | br c x => obtain ⟨b, _, _, h1, _⟩ := h; exact .inr ⟨_, b, h1⟩
end Go.Proofs.YtkegignigkhleaaDoor
