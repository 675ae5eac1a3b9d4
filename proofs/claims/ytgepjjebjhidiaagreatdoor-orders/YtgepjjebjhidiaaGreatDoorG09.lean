/-
  OUR OWN: TwA TwA2 TwB.
-/
import Derived.Test.YtgepjjebjhidiaaGreatDoorProg
import Derived.Test.YtgepjjebjhidiaaGreatDoorG04
import Derived.Test.YtgepjjebjhidiaaGreatDoorG01
import Derived.WalkKit
import Derived.WalkSpells
import Derived.WalkLawsBesides
import Derived.BigQuiet
import Derived.Deep.QuietTactic
import Derived.Deep.RegionHeld3
import Derived.Deep.DrawnRows
import Derived.Lib.SliceRun
namespace Go.Proofs.YtgepjjebjhidiaaGreatDoor
open Go.RowKit
attribute [local go_sem ↓] Go.wp_at_zero Go.wp_at_succ

def numV (n : Nat) : Value := .int .i64 (n : Int)
/-- a path in memory -/
structure Nums (w : World) (ao : Option Addr) (p : List Nat) : Prop where
  spot : ∀ a, ao = some a → a.spot = none
  at' : ∀ k, k < p.length → ∃ b off, ao = some ⟨b, off, none⟩ ∧ w.cell? ⟨b, off + k, none⟩ = some (.int .i64 ((p.getD k 0 : Nat) : Int))
theorem Nums.keep {w w' : World} {ao : Option Addr} {p : List Nat} (h : Nums w ao p) {B : Nat} (hb : Below B w w') (hB : w.heap.size ≤ B) : Nums w' ao p := ⟨h.spot, fun k hk => by
  obtain ⟨b, off, h1, h2⟩ := h.at' k hk
  have hl := World.block_lt_of_cell? w _ h2
  exact ⟨b, off, h1, (World.cell?_of_block (w := w) (w' := w') (a := ⟨b, off + k, none⟩) (hb.block b (Nat.lt_of_lt_of_le hl hB))).trans h2⟩⟩
theorem Nums.nil {w : World} {ao : Option Addr} (h : ∀ a, ao = some a → a.spot = none) : Nums w ao [] := ⟨h, fun k hk => by simp at hk⟩
theorem Nums.own {w : World} {base e n c : Nat} {ao : Option Addr} {p : List Nat} (h : w.ownsRow base e 1 (.slice ao n c) n (p.map numV)) : Nums w ao p := by
  refine ⟨fun a ha => ?_, fun k hk => ?_⟩
  · rcases h.2 with ⟨h1, _⟩ | ⟨g, c', cur, hh, _⟩
    · injection h1 with h1 _ _; rw [ha] at h1; cases h1
    · injection hh with hh1 _ _; rw [ha] at hh1; injection hh1 with hh1; rw [hh1]
  rcases h.2 with ⟨_, h0⟩ | ⟨g, c', cur, hh, _⟩
  · have := h.1
    simp at this; omega
  · injection hh with hh1 _ _
    have h2 := h.cells (g := g) (by rw [hh1]; rfl) k (numV (p.getD k 0)) (by simp [List.getD_eq_getElem?_getD, hk])
    rw [addr_add] at h2
    exact ⟨g, 0, hh1, h2⟩
theorem Nums.reads {w : World} {ao : Option Addr} {p : List Nat} (h : Nums w ao p) (cap : Nat) (h0 : ao = none → p = [] ∧ cap = 0) : Reads w (.slice ao p.length cap) p.length (p.map numV) := by
  cases ao with
  | none =>
    obtain ⟨rfl, rfl⟩ := h0 rfl
    exact .inl ⟨rfl, rfl, rfl⟩
  | some a =>
    refine .inr ⟨a, cap, rfl, fun j u hu => ?_⟩
    have hj : j < p.length := by have := (List.getElem?_eq_some_iff.1 hu).1; simpa using this
    obtain ⟨b, off, h1, h2⟩ := h.at' j hj
    obtain rfl : a = ⟨b, off, none⟩ := by simpa using h1
    rw [addr_add, h2]
    have e : (p.map numV)[j]? = some (numV (p.getD j 0)) := by simp [List.getD_eq_getElem?_getD, hj]
    rw [e] at hu
    exact hu
theorem Nums.drop {w : World} {b off : Nat} {p : List Nat} (h : Nums w (some ⟨b, off, none⟩) p) (n : Nat) : Nums w (some ⟨b, off + n, none⟩) (p.drop n) := ⟨fun a e => by injection e with e; rw [← e], fun k hk => by
  rw [List.length_drop] at hk
  obtain ⟨b', off', h1, h2⟩ := h.at' (n + k) (by omega)
  obtain ⟨rfl, rfl⟩ : b = b' ∧ off = off' := by simpa using h1
  refine ⟨b, off + n, rfl, ?_⟩
  rw [Nat.add_assoc, h2]
  simp [List.getD_eq_getElem?_getD, List.getElem?_drop]⟩
theorem Nums.take {w : World} {ao : Option Addr} {p : List Nat} (h : Nums w ao p) (n : Nat) : Nums w ao (p.take n) := ⟨h.spot, fun k hk => by
  rw [List.length_take] at hk
  obtain ⟨b, off, h1, h2⟩ := h.at' k (by omega)
  refine ⟨b, off, h1, ?_⟩
  rw [h2]
  have hk2 : k < n := by omega
  simp [List.getD_eq_getElem?_getD, hk2]⟩

def ptr (b : Nat) : Value := .pointer (some ⟨b, 0, none⟩)
/-- a branch's cells -/
def brCell (us : Nat → Value) (hs : Nat → ByteArray) (x : ByteArray) (j : Nat) : Value := if j = 32 then .string x else if j % 2 = 0 then us (j / 2) else .string (hs (j / 2))
def brCells (us : Nat → Value) (hs : Nat → ByteArray) (x : ByteArray) : Array Value := ((List.range 33).map (brCell us hs x)).toArray
theorem brCells_size (us : Nat → Value) (hs : Nat → ByteArray) (x : ByteArray) : (brCells us hs x).size = 33 := by simp [brCells]
theorem brCells_get (us : Nat → Value) (hs : Nat → ByteArray) (x : ByteArray) (j : Nat) (h : j < 33) : (brCells us hs x)[j]? = some (brCell us hs x j) := by simp [brCells, h]
def updV {α : Type} (f : Nat → α) (i : Nat) (x : α) : Nat → α := fun j => if j = i then x else f j
theorem brCells_none (us : Nat → Value) (hs : Nat → ByteArray) (x : ByteArray) (j : Nat) (h : 33 ≤ j) : (brCells us hs x)[j]? = none := Array.getElem?_eq_none (by rw [brCells_size]; exact h)
theorem brCells_set (us : Nat → Value) (hs : Nat → ByteArray) (x : ByteArray) (i : Nat) (hi : i < 16) (u : Value) (h : ByteArray) : ((brCells us hs x).setIfInBounds (i * 2) u).setIfInBounds (i * 2 + 1) (.string h) = brCells (updV us i u) (updV hs i h) x := by
  apply Array.ext_getElem?
  intro j
  by_cases hj : j < 33
  · rw [brCells_get _ _ _ j hj, Array.getElem?_setIfInBounds, Array.size_setIfInBounds, brCells_size]
    by_cases c1 : i * 2 + 1 = j
    · rw [if_pos c1, if_pos (by omega)]
      unfold brCell updV
      rw [if_neg (by omega), if_neg (by omega), if_pos (by omega)]
    · rw [if_neg c1, Array.getElem?_setIfInBounds, brCells_size]
      by_cases c2 : i * 2 = j
      · rw [if_pos c2, if_pos (by omega)]
        unfold brCell updV
        rw [if_neg (by omega), if_pos (by omega), if_pos (by omega)]
      · rw [if_neg c2, brCells_get _ _ _ j hj]
        unfold brCell updV
        by_cases c3 : j = 32
        · rw [if_pos c3, if_pos c3]
        · rw [if_neg c3, if_neg c3]
          by_cases c4 : j % 2 = 0
          · rw [if_pos c4, if_pos c4, if_neg (by omega)]
          · rw [if_neg c4, if_neg c4, if_neg (by omega)]
  · rw [brCells_none _ _ _ j (by omega), Array.getElem?_eq_none (by simp only [Array.size_setIfInBounds, brCells_size]; omega)]
theorem brCells_val (us : Nat → Value) (hs : Nat → ByteArray) (x y : ByteArray) : (brCells us hs x).setIfInBounds 32 (.string y) = brCells us hs y := by
  apply Array.ext_getElem?
  intro j
  by_cases hj : j < 33
  · rw [brCells_get _ _ _ j hj, Array.getElem?_setIfInBounds, brCells_size]
    by_cases c1 : 32 = j
    · rw [if_pos c1, if_pos (by omega)]
      unfold brCell
      rw [if_pos c1.symm]
    · rw [if_neg c1, brCells_get _ _ _ j hj]
      have c2 : ¬ j = 32 := fun e => c1 e.symm
      unfold brCell
      simp only [c2, if_false]
  · rw [brCells_none _ _ _ j (by omega), Array.getElem?_eq_none (by simp only [Array.size_setIfInBounds, brCells_size]; omega)]
theorem br_ref {w : World} {b : Nat} {us : Nat → Value} {hs : Nat → ByteArray} {x : ByteArray} (h : w.heap[b]? = some (.cells (brCells us hs x) 192 (0, 0))) (i : Nat) (hi : i < 16) : w.cell? ⟨b, i * 2, none⟩ = some (us i) ∧ w.cell? ⟨b, i * 2 + 1, none⟩ = some (.string (hs i)) := by
  constructor
  · rw [cell_of_row w b _ _ _ (0, 0) h, brCells_get _ _ _ _ (by omega)]
    unfold brCell
    rw [if_neg (by omega), if_pos (by omega), show i * 2 / 2 = i from by omega]
  · rw [cell_of_row w b _ _ _ (0, 0) h, brCells_get _ _ _ _ (by omega)]
    unfold brCell
    rw [if_neg (by omega), if_neg (by omega), show (i * 2 + 1) / 2 = i from by omega]
theorem br_val {w : World} {b : Nat} {us : Nat → Value} {hs : Nat → ByteArray} {x : ByteArray} (h : w.heap[b]? = some (.cells (brCells us hs x) 192 (0, 0))) : w.cell? ⟨b, 32, none⟩ = some (.string x) := by
  rw [cell_of_row w b _ _ _ (0, 0) h, brCells_get _ _ _ _ (by omega)]
  rfl
/-- a path's block is one of these -/
def PathIn (ok : Nat → Prop) (ao : Option Addr) (p : List Nat) : Prop := ∀ a, ao = some a → p ≠ [] → ok a.block
theorem Nums.lt {w : World} {ao : Option Addr} {p : List Nat} (h : Nums w ao p) : PathIn (fun b => b < w.heap.size) ao p := fun a e hn => by
  obtain ⟨b, off, h1, h2⟩ := h.at' 0 (List.length_pos_iff.2 hn)
  obtain rfl : a = ⟨b, off, none⟩ := by rw [e] at h1; simpa using h1
  exact World.block_lt_of_cell? w _ h2
theorem Nums.keepIn {w w' : World} {ao : Option Addr} {p : List Nat} {ok : Nat → Prop} (h : Nums w ao p) (hp : PathIn ok ao p) (hk : ∀ b, ok b → b < w.heap.size → w'.heap[b]? = w.heap[b]?) : Nums w' ao p := ⟨h.spot, fun k hk' => by
  obtain ⟨b, off, h1, h2⟩ := h.at' k hk'
  have hl := World.block_lt_of_cell? w _ h2
  exact ⟨b, off, h1, (World.cell?_of_block (w := w) (w' := w') (a := ⟨b, off + k, none⟩) (hk b (hp _ h1 (fun e => by rw [e] at hk'; simp at hk')) hl)).trans h2⟩⟩
/-- a node in memory; a hash that is kept is one that the node may have -/
def NdAt (Hk : Nd → ByteArray → Prop) (ok : Nat → Prop) (w : World) : Nd → Value → Prop
  | .nil => fun v => v = .nilIface
  | .leaf p x => fun v => ∃ b ao cap, v = .iface 97 (ptr b) ∧ ok b ∧ PathIn ok ao p ∧ w.heap[b]? = some (.cells #[Value.slice ao p.length cap, .string x] 125 (0, 0)) ∧ Nums w ao p ∧ (ao = none → cap = 0) ∧ p.length ≤ cap
  | .ext p n => fun v => ∃ b ao cap u h, v = .iface 168 (ptr b) ∧ ok b ∧ PathIn ok ao p ∧ w.heap[b]? = some (.cells #[.slice ao p.length cap, u, .string h] 189 (0, 0)) ∧ Nums w ao p ∧ (ao = none → cap = 0) ∧ p.length ≤ cap ∧ NdAt Hk ok w n u ∧ (h = e0 ∨ Hk n h)
  | .br c x => fun v => ∃ b us hs, v = .iface 170 (ptr b) ∧ ok b ∧ w.heap[b]? = some (.cells (brCells us hs x) 192 (0, 0)) ∧ ∀ i, i < 16 → NdAt Hk ok w (c i) (us i) ∧ (hs i = e0 ∨ (c i ≠ .nil ∧ Hk (c i) (hs i)))
theorem NdAt.keepIn {Hk : Nd → ByteArray → Prop} {ok : Nat → Prop} {w w' : World} (hk : ∀ b, ok b → b < w.heap.size → w'.heap[b]? = w.heap[b]?) : ∀ (n : Nd) (v : Value), NdAt Hk ok w n v → NdAt Hk ok w' n v
  | .nil, _, h => h
  | .leaf _ _, _, ⟨b, ao, cap, h1, o1, o2, h2, h3, h4⟩ => ⟨b, ao, cap, h1, o1, o2, by rw [hk b o1 (Array.getElem?_eq_some_iff.1 h2).1]; exact h2, h3.keepIn o2 hk, h4⟩
  | .ext _ n, _, ⟨b, ao, cap, u, h, h1, o1, o2, h2, h3, h4, h5, h6, h7⟩ => ⟨b, ao, cap, u, h, h1, o1, o2, by rw [hk b o1 (Array.getElem?_eq_some_iff.1 h2).1]; exact h2, h3.keepIn o2 hk, h4, h5, NdAt.keepIn hk n u h6, h7⟩
  | .br c _, _, ⟨b, us, hs, h1, o1, h2, h3⟩ => ⟨b, us, hs, h1, o1, by rw [hk b o1 (Array.getElem?_eq_some_iff.1 h2).1]; exact h2, fun i hi => ⟨NdAt.keepIn hk (c i) (us i) (h3 i hi).1, (h3 i hi).2⟩⟩
theorem NdAt.mono {Hk : Nd → ByteArray → Prop} {ok ok' : Nat → Prop} {w : World} (hk : ∀ b, ok b → ok' b) : ∀ (n : Nd) (v : Value), NdAt Hk ok w n v → NdAt Hk ok' w n v
  | .nil, _, h => h
  | .leaf _ _, _, ⟨b, ao, cap, h1, o1, o2, h2⟩ => ⟨b, ao, cap, h1, hk b o1, fun a e hn => hk _ (o2 a e hn), h2⟩
  | .ext _ n, _, ⟨b, ao, cap, u, h, h1, o1, o2, h2, h3, h4, h5, h6, h7⟩ => ⟨b, ao, cap, u, h, h1, hk b o1, fun a e hn => hk _ (o2 a e hn), h2, h3, h4, h5, NdAt.mono hk n u h6, h7⟩
  | .br c _, _, ⟨b, us, hs, h1, o1, h2, h3⟩ => ⟨b, us, hs, h1, hk b o1, h2, fun i hi => ⟨NdAt.mono hk (c i) (us i) (h3 i hi).1, (h3 i hi).2⟩⟩
theorem NdAt.keep {Hk : Nd → ByteArray → Prop} {ok : Nat → Prop} {w w' : World} {n : Nd} {v : Value} (h : NdAt Hk ok w n v) (hb : Below w.heap.size w w') : NdAt Hk ok w' n v := NdAt.keepIn (fun b _ hl => hb.block b hl) n v h
/-- all of it lies in blocks that there are -/
theorem NdAt.lt {Hk : Nd → ByteArray → Prop} {ok : Nat → Prop} {w : World} : ∀ (n : Nd) (v : Value), NdAt Hk ok w n v → NdAt Hk (fun b => b < w.heap.size) w n v
  | .nil, _, h => h
  | .leaf _ _, _, ⟨b, ao, cap, h1, _, _, h2, h3, h4⟩ => ⟨b, ao, cap, h1, (Array.getElem?_eq_some_iff.1 h2).1, Nums.lt h3, h2, h3, h4⟩
  | .ext _ n, _, ⟨b, ao, cap, u, h, h1, _, _, h2, h3, h4, h5, h6, h7⟩ => ⟨b, ao, cap, u, h, h1, (Array.getElem?_eq_some_iff.1 h2).1, Nums.lt h3, h2, h3, h4, h5, NdAt.lt n u h6, h7⟩
  | .br c _, _, ⟨b, us, hs, h1, _, h2, h3⟩ => ⟨b, us, hs, h1, (Array.getElem?_eq_some_iff.1 h2).1, h2, fun i hi => ⟨NdAt.lt (c i) (us i) (h3 i hi).1, (h3 i hi).2⟩⟩
theorem NdAt.some {Hk : Nd → ByteArray → Prop} {ok : Nat → Prop} {w : World} {n : Nd} {v : Value} (h : NdAt Hk ok w n v) (hn : n ≠ .nil) : ∃ t b, v = .iface t (ptr b) := by
  cases n with
  | nil => exact absurd rfl hn
  | leaf p x => obtain ⟨b, _, _, h1, _⟩ := h; exact ⟨_, b, h1⟩
  | ext p m => obtain ⟨b, _, _, _, _, h1, _⟩ := h; exact ⟨_, b, h1⟩
  | br c x => obtain ⟨b, _, _, h1, _⟩ := h; exact ⟨_, b, h1⟩

theorem isEmpty_yes (b off : Nat) (w : World) (h0 : w.cell? ⟨b, off, none⟩ = some .nilIface) (h1 : w.cell? ⟨b, off + 1, none⟩ = some (.string e0)) :
    Calls Tryz.prog 51 #[.pointer (some ⟨b, off, none⟩)] w fun e w' => e = .returned (.bool true) ∧ w' = w := by
  go_enter Tryz.func51, Tryz.ntmps51
  go_wp2
  go_ret
  exact ⟨rfl, rfl⟩
theorem isEmpty_no (b off : Nat) (t : TypeId) (x : Nat) (w : World) (h0 : w.cell? ⟨b, off, none⟩ = some (.iface t (ptr x))) :
    Calls Tryz.prog 51 #[.pointer (some ⟨b, off, none⟩)] w fun e w' => e = .returned (.bool false) ∧ w' = w := by
  go_enter Tryz.func51, Tryz.ntmps51
  go_wp2
  go_ret
  exact ⟨rfl, rfl⟩

def isNd (v : Value) : Prop := v = .nilIface ∨ ∃ t b, v = .iface t (ptr b)
theorem NdAt.isNd {Hk : Nd → ByteArray → Prop} {ok : Nat → Prop} {w : World} {n : Nd} {v : Value} (h : NdAt Hk ok w n v) : isNd v := by
  cases n with
  | nil => exact .inl h
  | leaf p x => obtain ⟨b, _, _, h1, _⟩ := h; exact .inr ⟨_, b, h1⟩
  | ext p m => obtain ⟨b, _, _, _, _, h1, _⟩ := h; exact .inr ⟨_, b, h1⟩
  | br c x => obtain ⟨b, _, _, h1, _⟩ := h; exact .inr ⟨_, b, h1⟩
end Go.Proofs.YtgepjjebjhidiaaGreatDoor
namespace Go.Proofs.YtgepjjebjhidiaaGreatDoor
open Go.RowKit
attribute [local go_sem ↓] Go.wp_at_zero Go.wp_at_succ

theorem infoI : (Tryz.prog.info? 3).map (fun i => (i.zero, i.size, i.bytes)) = some (some (.int .i64 0), 1, 8) := by kernel_rfl
/-- a path that came out new -/
def NewPath (B : Nat) (p : List Nat) (w : World) (e : Ending) (w' : World) : Prop := ∃ ao cap, e = .returned (.slice ao p.length cap) ∧ PathIn (fun b => B ≤ b) ao p ∧ Nums w' ao p ∧ (ao = none → cap = 0) ∧ p.length ≤ cap ∧ Below B w w'
theorem own_path {w : World} {base e n : Nat} {v : Value} {p : List Nat} (h : w.ownsRow base e 1 v n (p.map numV)) (hn : n = p.length) : ∃ ao cap, v = .slice ao p.length cap ∧ PathIn (fun b => base ≤ b) ao p ∧ Nums w ao p ∧ (ao = none → cap = 0) ∧ p.length ≤ cap := by
  subst hn
  have h' := h
  rcases h.2 with ⟨rfl, h0⟩ | ⟨g, c, cur, rfl, hg, _, h1, _⟩
  · have hp : p = [] := List.length_eq_zero_iff.1 h0
    subst hp
    exact ⟨none, 0, rfl, (fun a e => by cases e), Nums.nil (fun a e => by cases e), fun _ => rfl, Nat.le_refl _⟩
  · exact ⟨_, c, rfl, (fun a e _ => by cases e; exact hg), Nums.own h', (fun h => by cases h), h1⟩

theorem qI (w : World) (a : Option Addr) (n c n' c' : Nat) : (binOp .eql 39 (.slice a n c) (.slice none n' c')).run Tryz.prog w = .ok (.bool a.isNone) w := Lib.run_eql_slice_nil w _ _ a n c n' c' Tryz.underlying39
set_option maxHeartbeats 1000000 in
set_option maxRecDepth 20000 in
theorem cloneI_any (ao : Option Addr) (cap : Nat) (p : List Nat) (w : World) (hp : Nums w ao p) (h0 : ao = none → cap = 0) (hc : p.length ≤ cap) (hm : p.length ≤ 1000) :
    Calls Tryz.prog 65 #[.slice ao p.length cap] w fun e w' => NewPath w.heap.size p w e w' := by
  have q47 := qI
  cases ao with
  | none =>
    obtain rfl := h0 rfl
    obtain rfl : p = [] := List.length_eq_zero_iff.1 (by omega)
    go_enter Tryz.func65, Tryz.ntmps65
    go_wp2
    go_ret
    exact ⟨none, 0, rfl, (fun a e => by cases e), Nums.nil (fun a e => by cases e), fun _ => rfl, Nat.le_refl _, Below.refl _ _⟩
  | some a =>
    obtain ⟨i0, hi, hz0, hz1, hz2⟩ := info_parts infoI
    have HR : Hid (Reads (w.alloc (.cells #[] 3)) (.slice (some a) p.length cap) p.length (p.map numV)) := (hp.reads cap (fun h => by cases h)).keep (below_alloc _ _)
    have HO : Hid ((w.alloc (.cells #[] 3)).ownsRow w.heap.size 3 1 (.slice (some ⟨w.heap.size, 0, none⟩) 0 0) 0 []) := World.ownsRow_made (base := w.heap.size) (e := 3) (size := 1) w #[] 0 (Nat.le_refl _) (by unfold maxLen; omega) rfl
    have HM := hide hm
    clear hp hm hc h0
    go_enter Tryz.func65, Tryz.ntmps65
    go_wp2_with (at_builtin; go_must (refine wpList_append_reads rfl (.tmp 5) (.tmp 6) 39 rfl w.heap.size 3 i0 (.int .i64 0) 1 8 Tryz.underlying39 hi hz0 hz1 hz2 rfl (by decide) _ 0 [] rfl HO.out _ p.length (p.map numV) rfl HR.out (by simp) (by intro u hu; simp [numV] at hu; obtain ⟨x, _, rfl⟩ := hu; rfl) (by have := HM.out; unfold maxLen; omega) (by have := HM.out; omega) (by simp) ?_); intro v3 w3 ho3 hg3; go_must (have HO3 := hide (And.intro ho3 hg3)); clear ho3 hg3)
    go_ret
    have ho := HO3.out.1
    rw [List.nil_append] at ho
    obtain ⟨ao', cap', rfl, h1, h2, h3, h4⟩ := own_path ho (by omega)
    exact ⟨ao', cap', rfl, h1, h2, h3, h4, (below_alloc _ _).grown HO3.out.2 (by simp) (own_ge HO.out (Nat.le_refl _))⟩
end Go.Proofs.YtgepjjebjhidiaaGreatDoor
namespace Go.Proofs.YtgepjjebjhidiaaGreatDoor
open Go.RowKit
attribute [local go_sem ↓] Go.wp_at_zero Go.wp_at_succ

theorem take_eq_step {p q : List Nat} {k : Nat} (h : p.take k = q.take k) (hp : k < p.length) (hq : k < q.length) (he : p.getD k 0 = q.getD k 0) : p.take (k + 1) = q.take (k + 1) := by
  rw [List.take_succ_eq_append_getElem hp, List.take_succ_eq_append_getElem hq, h]
  have e1 : p.getD k 0 = p[k] := by simp [List.getD_eq_getElem?_getD, hp]
  have e2 : q.getD k 0 = q[k] := by simp [List.getD_eq_getElem?_getD, hq]
  rw [← e1, ← e2, he]
theorem shared_step {q p : List Nat} {n : Nat} (h : n < shared q p) : n < q.length ∧ n < p.length ∧ q.getD n 0 = p.getD n 0 := by
  have h1 := shared_le_left q p
  have h2 := shared_le_right q p
  refine ⟨by omega, by omega, ?_⟩
  have e := congrArg (fun l => l.getD n 0) (shared_take q p)
  simpa [List.getD_eq_getElem?_getD, List.getElem?_take, h] using e
theorem drew_below (w : World) (n : Nat) : Below w.heap.size w (w.drewN n) := below_drewN (Below.refl _ _) n

set_option maxHeartbeats 1000000 in
set_option maxRecDepth 20000 in
theorem equalI_any (ao bo : Option Addr) (ca cb : Nat) (p q : List Nat) (w : World) (ha : Nums w ao p) (hb : Nums w bo q) (hp : p.length ≤ 1000) :
    Calls Tryz.prog 141 #[.slice ao p.length ca, .slice bo q.length cb] w fun e w' => e = .returned (.bool (decide (p = q))) ∧ Below w.heap.size w w' := by
  by_cases hl : p.length = q.length
  · have hl1 : ((p.length : Int) != (q.length : Int)) = false := by simp; omega
    have HA := hide ha
    have HB := hide hb
    have HL := hide hl
    have hpI : (p.length : Int) ≤ 1000 := by omega
    clear ha hb
    go_enter Tryz.func141, Tryz.ntmps141
    go_wp2_with fail
    clear hl hl1
    go_loopw [13] (fun i wr => ∃ k : Nat, k ≤ p.length ∧ i = .int .i64 (k : Int) ∧ p.take k = q.take k ∧ ∃ n, wr = w.drewN n) (fun i _ => p.length - (intOf i).toNat)
    case atStart => exact ⟨0, Nat.zero_le _, rfl, by simp, 0, rfl⟩
    case round =>
      obtain ⟨k, hk, rfl, ht, n, rfl⟩ := hrel
      by_cases hlt : k < p.length
      · have hlq : k < q.length := by have := HL.out; omega
        obtain ⟨b1, o1, rfl, c1⟩ := HA.out.at' k hlt
        obtain ⟨b2, o2, rfl, c2⟩ := HB.out.at' k hlq
        have HT := hide ht
        have hkI : (k : Int) < (p.length : Int) := by omega
        have hkq : (k : Int) < (q.length : Int) := by omega
        have hk0 : (0 : Int) ≤ (k : Int) := by omega
        by_cases he : p.getD k 0 = q.getD k 0
        · have HS := hide (take_eq_step ht hlt hlq he)
          rw [← he] at c2
          clear ht he hlq
          generalize p.getD k 0 = z at *
          go_wp2
          go_quiet (fail)
          go_wp2
          go_roundw
          case rel => exact ⟨k + 1, by omega, by go_num, HS.out, n + nq, rfl⟩
          case measure => simp [intOf]; omega
        · have HN : Hid (p ≠ q) := fun e => he (by rw [e])
          have hne : ((p.getD k 0 : Nat) : Int) ≠ ((q.getD k 0 : Nat) : Int) := by omega
          clear ht he hlq
          generalize p.getD k 0 = z1 at *
          generalize q.getD k 0 = z2 at *
          go_wp2
          go_quiet (fail)
          go_wp2
          go_ret
          exact ⟨by rw [decide_eq_false HN.out]; rfl, by first | exact below_drewN (drew_below _ _) _ | exact drew_below _ _⟩
      · obtain rfl : k = p.length := by omega
        have HE : Hid (p = q) := by
          show p = q
          have h1 := HL.out
          rw [List.take_length, h1, List.take_length] at ht
          exact ht
        have hql : (q.length : Int) ≤ (p.length : Int) := by have := HL.out; omega
        clear ht
        go_wp2
        go_ret
        exact ⟨by rw [decide_eq_true HE.out]; rfl, drew_below _ _⟩
  · have hl1 : ((p.length : Int) != (q.length : Int)) = true := by simp; omega
    have HN : Hid (p ≠ q) := fun e => hl (by rw [e])
    clear ha hb hl
    go_enter Tryz.func141, Tryz.ntmps141
    go_wp2
    go_ret
    exact ⟨by rw [decide_eq_false HN.out]; rfl, Below.refl _ _⟩

set_option maxHeartbeats 2000000 in
set_option maxRecDepth 20000 in
theorem sharedI_any (ao bo : Option Addr) (ca cb : Nat) (p q : List Nat) (w : World) (ha : Nums w ao p) (hb : Nums w bo q) (hp : p.length ≤ 1000) :
    Calls Tryz.prog 142 #[.slice ao p.length ca, .slice bo q.length cb] w fun e w' => e = .returned (.int .i64 (shared p q : Int)) ∧ Below w.heap.size w w' := by
  have HA := hide ha
  have HB := hide hb
  have hpI : (p.length : Int) ≤ 1000 := by omega
  clear ha hb
  go_enter Tryz.func142, Tryz.ntmps142
  go_wp2_with fail
  go_loopw [5] (fun i wr => ∃ k : Nat, k ≤ shared p q ∧ i = .int .i64 (k : Int) ∧ ∃ n, wr = w.drewN n) (fun i _ => shared p q - (intOf i).toNat)
  case atStart => exact ⟨0, Nat.zero_le _, rfl, 0, rfl⟩
  case round =>
    obtain ⟨k, hk, rfl, n, rfl⟩ := hrel
    have hk0 : (0 : Int) ≤ (k : Int) := by omega
    by_cases hlt : k < shared p q
    · obtain ⟨l1, l2, he⟩ := shared_step hlt
      obtain ⟨b1, o1, rfl, c1⟩ := HA.out.at' k l1
      obtain ⟨b2, o2, rfl, c2⟩ := HB.out.at' k l2
      rw [← he] at c2
      have d1 : (k : Int) < (p.length : Int) := by omega
      have d2 : (k : Int) < (q.length : Int) := by omega
      clear he
      generalize p.getD k 0 = z at *
      go_wp2
      go_quiet (fail)
      go_wp2
      go_roundw
      case rel => exact ⟨k + 1, by omega, by go_num, n + nq, rfl⟩
      case measure => simp [intOf]; omega
    · have hke : k = shared p q := by omega
      have h1 := shared_le_left p q
      have h2 := shared_le_right p q
      by_cases l1 : k < p.length
      · have d1 : (k : Int) < (p.length : Int) := by omega
        by_cases l2 : k < q.length
        · have d2 : (k : Int) < (q.length : Int) := by omega
          obtain ⟨b1, o1, rfl, c1⟩ := HA.out.at' k l1
          obtain ⟨b2, o2, rfl, c2⟩ := HB.out.at' k l2
          have hne : ((p.getD k 0 : Nat) : Int) ≠ ((q.getD k 0 : Nat) : Int) := by
            have := shared_ne p q (p.getD k 0) (q.getD k 0) (by rw [← hke]; simp [List.getD_eq_getElem?_getD, l1]) (by rw [← hke]; simp [List.getD_eq_getElem?_getD, l2])
            omega
          have HK := hide hke
          generalize p.getD k 0 = z1 at *
          generalize q.getD k 0 = z2 at *
          clear hke hlt hk h1 h2
          go_wp2
          go_quiet (fail)
          go_wp2
          go_ret
          exact ⟨by rw [← HK.out]; rfl, by first | exact below_drewN (drew_below _ _) _ | exact drew_below _ _⟩
        · have d2 : (q.length : Int) ≤ (k : Int) := by omega
          have HK := hide hke
          clear hke hlt hk h1 h2
          go_wp2
          go_quiet (fail)
          go_wp2
          go_ret
          exact ⟨by rw [← HK.out]; rfl, by first | exact below_drewN (drew_below _ _) _ | exact drew_below _ _⟩
      · have d1 : (p.length : Int) ≤ (k : Int) := by omega
        have HK := hide hke
        clear hke hlt hk h1 h2
        go_wp2
        go_quiet (fail)
        go_wp2
        go_ret
        exact ⟨by rw [← HK.out]; rfl, by first | exact below_drewN (drew_below _ _) _ | exact drew_below _ _⟩

set_option maxHeartbeats 1000000 in
set_option maxRecDepth 20000 in
theorem newLeaf_any (Hk : Nd → ByteArray → Prop) (ao : Option Addr) (cap : Nat) (p : List Nat) (x : ByteArray) (w : World) (hp : Nums w ao p) (h0 : ao = none → cap = 0) (hc : p.length ≤ cap) (hm : p.length ≤ 1000) :
    Calls Tryz.prog 52 #[.slice ao p.length cap, .string x] w fun e w' => ∃ b, e = .returned (ptr b) ∧ b + 1 = w'.heap.size ∧ w.heap.size ≤ b ∧ NdAt Hk (fun k => w.heap.size ≤ k) w' (.leaf p x) (.iface 97 (ptr b)) ∧ Below w.heap.size w w' := by
  have HC := hide (cloneI_any ao cap p w hp h0 hc hm)
  clear hp h0 hc hm
  go_enter Tryz.func52, Tryz.ntmps52
  go_wp2_with fail
  refine HC.out.mono ?_
  rintro e w1 ⟨ao1, cap1, rfl, h0, h1, h2, h3, hb⟩
  have HB := hide hb
  have HN := hide (And.intro h1 (And.intro h2 (And.intro h3 h0)))
  clear h0 h1 h2 h3 hb
  go_wp2
  go_ret
  exact ⟨w1.heap.size, rfl, by simp, HB.out.size, ⟨w1.heap.size, ao1, cap1, rfl, HB.out.size, HN.out.2.2.2, heap_alloc_new w1 _, HN.out.1.keep (below_alloc w1 _) (Nat.le_refl _), HN.out.2.1, HN.out.2.2.1⟩, HB.out.alloc HB.out.size _⟩
end Go.Proofs.YtgepjjebjhidiaaGreatDoor
