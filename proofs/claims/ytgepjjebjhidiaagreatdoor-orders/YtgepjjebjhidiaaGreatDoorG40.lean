/-
  OUR OWN: SoA SoB OrB.
-/
import Derived.Test.YtgepjjebjhidiaaGreatDoorG38
import Derived.Test.YtgepjjebjhidiaaGreatDoorG35
import Derived.Test.YtgepjjebjhidiaaGreatDoorSort
import Derived.Shelf.SlSortCmp.NoneTotal
import Derived.Test.YtgepjjebjhidiaaGreatDoorG36
namespace Go.Proofs.YtgepjjebjhidiaaGreatDoor
open Go.RowKit Go.Shelf Go.Sort

theorem cmp_less : ∀ (a b : List UInt8), Lib.compareBytes a b < 0 ↔ Op.bytesLess a b = true
  | [], [] => by simp [Lib.compareBytes, Op.bytesLess]
  | [], _ :: _ => by simp [Lib.compareBytes, Op.bytesLess]
  | _ :: _, [] => by simp [Lib.compareBytes, Op.bytesLess]
  | a :: x, b :: y => by
    have ih := cmp_less x y
    unfold Lib.compareBytes Op.bytesLess
    by_cases h : a < b
    · simp [h]
    · by_cases h' : b < a
      · have hne : ¬ a = b := fun e => by rw [e] at h'; exact UInt8.lt_irrefl _ h'
        simp [h, h', hne]
      · have e : a = b := UInt8.le_antisymm (UInt8.not_lt.1 h') (UInt8.not_lt.1 h)
        subst e
        simp [ih]
theorem less_tri : ∀ (a b : List UInt8), Op.bytesLess a b = true ∨ a = b ∨ Op.bytesLess b a = true
  | [], [] => .inr (.inl rfl)
  | [], _ :: _ => .inl rfl
  | _ :: _, [] => .inr (.inr rfl)
  | a :: x, b :: y => by
    unfold Op.bytesLess
    by_cases h : a < b
    · simp [h]
    · by_cases h' : b < a
      · simp [h']
      · have e : a = b := UInt8.le_antisymm (UInt8.not_lt.1 h') (UInt8.not_lt.1 h)
        subst e
        rcases less_tri x y with h1 | h1 | h1
        · simp [h1]
        · simp [h1]
        · simp [h1]
theorem less_trans {a b c : List UInt8} (h : Op.bytesLess a b = true) (h' : Op.bytesLess b c = true) : Op.bytesLess a c = true := (less_plt _ _).2 (plt_trans ((less_plt _ _).1 h) ((less_plt _ _).1 h'))
def cfE (x y : Pr) : Int := Lib.compareBytes x.1.data.toList y.1.data.toList
theorem lt_cfE (x y : Pr) : ltOf cfE x y = Op.bytesLess x.1.toList y.1.toList := by
  unfold ltOf cfE
  rw [ByteArray.toList_eq, ByteArray.toList_eq]
  cases h : Op.bytesLess x.1.data.toList y.1.data.toList with
  | true => exact decide_eq_true ((cmp_less _ _).2 h)
  | false => exact decide_eq_false (fun e => by rw [(cmp_less _ _).1 e] at h; cases h)
theorem swoE : SWO (ltOf cfE) where
  irrefl x := by rw [lt_cfE]; exact less_irrefl _
  trans x y z h1 h2 := by rw [lt_cfE] at *; exact less_trans h1 h2
  ntrans x y z h1 h2 := by
    rw [lt_cfE] at *
    cases h : Op.bytesLess x.1.toList z.1.toList with
    | false => rfl
    | true =>
      rcases less_tri x.1.toList y.1.toList with k | k | k
      · rw [k] at h1; cases h1
      · rw [k, h2] at h; cases h
      · rw [less_trans k h] at h2; cases h2
def encE (p : Pr) : List Value := [.string p.1, .string p.2]
set_option maxHeartbeats 1000000 in
theorem closureE (x y : Pr) (W : World) : Calls Tryz.prog 43 #[.agg #[.string x.1, .string x.2], .agg #[.string y.1, .string y.2]] W fun e w' => e = .returned (.int .i64 (cfE x y)) ∧ ∃ q os', w' = grow (W.drewN q) os' := by
  have hcon := fun W' => Any.strings_Compare Tryz.cmpStr x.1 y.1 W'
  change ∀ W', Calls Tryz.prog 44 _ _ _ at hcon
  have e : Lib.compareBytes x.1.data.toList y.1.data.toList = cfE x y := rfl
  rw [e] at hcon
  clear e
  generalize cfE x y = r at hcon ⊢
  go_enter Tryz.func43, Tryz.ntmps43
  go_wp2_with (go_at_call 44; refine (hcon _).mono ?_; rintro e w' ⟨rfl, rfl⟩)
  go_ret
  exact ⟨rfl, 0, _, by rw [alloc_eq_grow, alloc_eq_grow, grow_grow]; rfl⟩
theorem cmpLaysE (blk off size : Nat) (w : World) : CmpLays Tryz.prog 43 #[] encE 2 cfE blk off size w :=
  fun _ _ _ _ x y => closureE x y _
end Go.Proofs.YtgepjjebjhidiaaGreatDoor
namespace Go.Proofs.YtgepjjebjhidiaaGreatDoor
open Go.RowKit Go.Shelf Go.Sort

theorem sortW_grown (w : World) (blk off n : Nat) (d : Array Pr) (os : Array Obj) : w.grownBy (sortWorldK encE 2 w blk off n d os) (some blk) := by
  refine ⟨rfl, rfl, rfl, ?_, fun k hk hn => ?_⟩
  · simp [sortWorldK, putRowK, putRow, mapBlock, grow, Sort.ahead]
  · have hne : blk ≠ k := fun e => hn (by rw [e])
    show (w.heap.modify blk _ ++ os)[k]? = w.heap[k]?
    rw [Array.getElem?_append, if_pos (by simpa using hk), Array.getElem?_modify, if_neg hne]
theorem holdsE {w : World} {base g cap : Nat} {L : List Pr} (h : w.ownsRow base 48 2 (.slice (some ⟨g, 0, none⟩) L.length cap) L.length (pairCells L)) : HoldsK encE 2 w g 0 L.toArray := by
  intro j hj
  have hj2 : j < L.length * 2 := by simpa using hj
  have hi : j / 2 < L.length := by omega
  obtain ⟨k1, k2⟩ := pairCells_get L (j / 2) hi
  have e1 : (flatK encE 2 L.toArray)[j]! = (encE (L.toArray[j / 2]!))[j % 2]! := get_flatK encE 2 L.toArray j (by simpa using hj)
  have e2 : L.toArray[j / 2]! = L.getD (j / 2) pr0 := by
    rw [getElem!_pos L.toArray (j / 2) (by simpa using hi)]
    simp [List.getD_eq_getElem?_getD, hi]
  have hcell : w.cell? ⟨g, 0 + j, none⟩ = some ((encE (L.getD (j / 2) pr0))[j % 2]!) := by
    have hm : j % 2 = 0 ∨ j % 2 = 1 := by omega
    rcases hm with hm | hm
    · have ej : j / 2 * 2 = j := by omega
      rw [ej] at k1
      have c1 := h.cells (g := g) rfl _ _ k1
      rw [addr_add] at c1
      rw [hm]; exact c1
    · have ej : j / 2 * 2 + 1 = j := by omega
      rw [ej] at k2
      have c1 := h.cells (g := g) rfl _ _ k2
      rw [addr_add] at c1
      rw [hm]; exact c1
  refine ⟨by rw [e1, e2]; exact hcell, ?_⟩
  rcases h.2 with ⟨hh, _⟩ | ⟨g', c', cur, hh, _, h3, _⟩
  · cases hh
  · injection hh with hh _ _
    injection hh with hh
    injection hh with hh _
    subst hh
    exact frozen_of_row _ _ _ _ _ h3
/-- no later one is less than an earlier one -/
def Ranked (L : List Pr) : Prop := ∀ i j, i < j → j < L.length → Op.bytesLess (L.getD j pr0).1.toList (L.getD i pr0).1.toList = false
def SortPost (v : Value) (L : List Pr) (w : World) (e : Ending) (w' : World) : Prop := e = .returned (.tuple #[]) ∧ w.grownBy w' v.ownBlock ∧ ∃ L' : List Pr, L'.Perm L ∧ Ranked L' ∧ ∃ ao c, v = .slice ao L'.length c ∧ Prs w' ao L' ∧ (ao = none → c = 0) ∧ L'.length ≤ c ∧ ∀ a, ao = some a → a.spot = none
set_option maxHeartbeats 1000000 in
theorem sortE_any (base : Nat) (v : Value) (L : List Pr) (w : World) (ho : w.ownsRow base 48 2 v L.length (pairCells L)) (hl : L.length ≤ 1000000) :
    Calls Tryz.prog 42 #[v, .func (.func 43) #[] #[]] w fun e w' => SortPost v L w e w' := by
  rcases ho.2 with ⟨rfl, h0⟩ | ⟨g, cap, cur, rfl, hb, hh, hnc, hcm, hcs, htk⟩
  · obtain rfl : L = [] := List.length_eq_zero_iff.1 h0
    have hS := AnyF.slices_SortFunc_none (P := Tryz.prog) (ρ := Tryz.sortE_ren) Tryz.sortE none 0 (.func (.func 43) #[] #[]) w
    change Calls Tryz.prog 42 _ _ _ at hS
    refine hS.mono ?_
    rintro e w' ⟨rfl, rfl⟩
    exact ⟨rfl, ⟨rfl, rfl, rfl, Nat.le_refl _, fun _ _ _ => rfl⟩, [], List.Perm.refl _, fun i j _ hj => by simp at hj, none, 0, rfl, fun i hi => by simp at hi, fun _ => rfl, Nat.le_refl _, fun a e => by cases e⟩
  · have eg : ∀ args w, (callFunc 43 args).run Tryz.prog w = .ok (.enter 43 args) w := enters_of Tryz.func43 (by kernel_rfl) rfl
    have hglt := (Array.getElem?_eq_some_iff.1 hh).1
    have hH := holdsE ho
    have hcon := AnyQ.slices_SortFunc (P := Tryz.prog) (ρ := Tryz.sortE_ren) Tryz.sortE 2 (fun _ => by kernel_rfl) (fun _ => by kernel_rfl) encE (fun _ => rfl) (fun x v hv => by simp [encE] at hv; rcases hv with rfl | rfl <;> rfl) cfE swoE 43 #[] g 0 cap L.toArray w eg (cmpLaysE g 0 _ w) hH hglt (by simp; omega)
    change Calls Tryz.prog 42 _ _ _ at hcon
    rw [List.size_toArray] at hcon
    refine hcon.mono ?_
    rintro e w' ⟨rfl, d', n, os, hp, hs, rfl⟩
    obtain ⟨hsz, _, hperm⟩ := hp
    have hsz' : d'.size = L.length := by simpa using hsz
    have hfull : d'.extract 0 L.length = d' := by rw [← hsz']; simp
    have hpm : d'.toList.Perm L := by
      rw [hfull] at hperm
      simpa using hperm
    have hld : d'.toList.length = L.length := by simpa using hsz'
    have hget : ∀ i, i < d'.size → d'[i]! = d'.toList.getD i pr0 := fun i hi => by
      rw [getElem!_pos d' i hi]
      simp [List.getD_eq_getElem?_getD, hi]
    have hHold : HoldsK encE 2 (sortWorldK encE 2 w g 0 n d' os) g 0 d' := by
      unfold sortWorldK
      exact holdsK_grow _ _ _ _ _ _ _ (by simp [putRowK, Sort.ahead]; exact hglt) (holdsK_putRowK _ _ _ _ _ L.toArray _ (holdsK_ahead _ _ _ _ _ _ _ hH) (by simpa using hsz'))
    refine ⟨rfl, sortW_grown w g 0 n d' os, d'.toList, hpm, fun i j hij hj => ?_, some ⟨g, 0, none⟩, cap, by rw [hld], fun i hi => ?_, (fun e => by cases e), by omega, fun a e => by injection e with e; rw [← e]⟩
    · have hj' : j < d'.size := by simpa using hj
      have h := hs i j (Nat.zero_le _) hij (by omega)
      rw [lt_cfE, hget j hj', hget i (by omega)] at h
      exact h
    · have hi' : i < d'.size := by simpa using hi
      obtain ⟨c1, _⟩ := hHold.cell hi' (show 0 < 2 by omega)
      obtain ⟨c2, _⟩ := hHold.cell hi' (show 1 < 2 by omega)
      rw [hget i hi'] at c1 c2
      exact ⟨g, 0, rfl, c1, c2⟩
end Go.Proofs.YtgepjjebjhidiaaGreatDoor
namespace Go.Proofs.YtgepjjebjhidiaaGreatDoor
open Go.RowKit

theorem sz_list {c : Nat → Nd} {f : Nat → List (List Nat × ByteArray)} : ∀ (L : List Nat), (∀ i ∈ L, c i ≠ .nil → (c i).sz + 2 ≤ 3 * (f i).length) →
    (L.map fun i => (c i).sz).sum + 2 * (L.filter (fun i => !(c i).isNil)).length ≤ 3 * (L.flatMap f).length
  | [], _ => by simp
  | i :: L, h => by
    have ih := sz_list (c := c) (f := f) L (fun j hj => h j (List.mem_cons_of_mem _ hj))
    have hi := h i (List.mem_cons_self ..)
    rw [List.map_cons, List.sum_cons, List.filter_cons, List.flatMap_cons, List.length_append]
    cases hn : (c i).isNil with
    | true =>
      have e : c i = .nil := (isNil_iff _).1 hn
      have e0 : (c i).sz = 0 := by rw [e]; rfl
      simp only [Bool.not_true, Bool.false_eq_true, if_false]
      omega
    | false =>
      have e : c i ≠ .nil := fun e => by rw [(isNil_iff _).2 e] at hn; cases hn
      have := hi e
      simp only [Bool.not_false, if_true, List.length_cons]
      omega
/-- a tree has few nodes where it holds few values -/
theorem sz_flat : ∀ (n : Nd) (p : List Nat), n.WF → n ≠ .nil → n.sz + 2 ≤ 3 * (n.flat p).length ∧ (n.isBr = true → n.sz + 3 ≤ 3 * (n.flat p).length)
  | .nil, _, _, h => absurd rfl h
  | .leaf q v, p, _, _ => ⟨by simp [Nd.sz, Nd.flat], fun h => by simp [Nd.isBr] at h⟩
  | .ext q m, p, hw, _ => by
    have hm : m ≠ .nil := fun e => by
      have := hw.2.2.1
      rw [e] at this
      simp [Nd.isBr] at this
    have ih := (sz_flat m (p ++ q) hw.2.2.2 hm).2 hw.2.2.1
    refine ⟨?_, fun h => by simp [Nd.isBr] at h⟩
    show m.sz + 1 + 2 ≤ 3 * (m.flat (p ++ q)).length
    omega
  | .br c v, p, hw, _ => by
    have hl := sz_list (c := c) (f := fun i => (c i).flat (p ++ [i])) (List.range 16) (fun i _ hi => (sz_flat (c i) (p ++ [i]) (hw.1 i) hi).1)
    have hp := hw.2.2
    have key : (Nd.br c v).sz + 3 ≤ 3 * ((Nd.br c v).flat p).length := by
      show ((List.range 16).map fun i => (c i).sz).sum + 1 + 3 ≤ 3 * ((if v.size = 0 then [] else [(p, v)]) ++ (List.range 16).flatMap (fun i => (c i).flat (p ++ [i]))).length
      rw [List.length_append]
      unfold nParts full at hp
      by_cases hv : v.size = 0
      · rw [if_pos hv] at hp ⊢
        simp only [List.length_nil]
        omega
      · rw [if_neg hv] at hp ⊢
        simp only [List.length_cons, List.length_nil]
        omega
    exact ⟨by omega, fun _ => key⟩
theorem sz_holds {n : Nd} {m : List Pr} (h : Holds n m) (hw : n.WF) : n.sz ≤ 3 * m.length := by
  by_cases hn : n = .nil
  · subst hn; exact Nat.zero_le _
  · have h1 := (sz_flat n [] hw hn).1
    rw [h.flat hw, List.length_map] at h1
    omega
/-- where a tree holds something -/
def Sup (n : Nd) (P : ByteArray → Prop) : Prop := ∀ r, (n.look r).size ≠ 0 → ∃ k, P k ∧ r = pathN k
theorem Sup.nil (P : ByteArray → Prop) : Sup .nil P := fun _ h => absurd rfl h
theorem Sup.set {n : Nd} {P Q : ByteArray → Prop} (h : Sup n P) (hw : n.WF) (k v : ByteArray) (hPQ : ∀ x, P x → Q x) (hk : Q k) : Sup (n.set (pathN k) v) Q := fun r hr => by
  rw [look_set hw (pathN_lt k)] at hr
  by_cases e : pathN k = r
  · exact ⟨k, hk, e.symm⟩
  · rw [if_neg e] at hr
    obtain ⟨x, hx, hr⟩ := h r hr
    exact ⟨x, hPQ x hx, hr⟩
/-- all of these pairs are held -/
def Has (n : Nd) (m : List Pr) : Prop := ∀ p ∈ m, n.look (pathN p.1) = p.2
theorem Has.set {n : Nd} {m : List Pr} (h : Has n m) (hw : n.WF) (p : Pr) (hd : ∀ q ∈ m, q.1 ≠ p.1) : Has (n.set (pathN p.1) p.2) (m ++ [p]) := fun q hq => by
  rw [look_set hw (pathN_lt _)]
  rcases List.mem_append.1 hq with hq | hq
  · rw [if_neg (fun e => hd q hq (pathN_inj e).symm)]
    exact h q hq
  · have e : q = p := by simpa using hq
    rw [e, if_pos rfl]
theorem Has.drop {n : Nd} {m : List Pr} (h : Has n m) (hw : n.WF) (k : ByteArray) (hd : ∀ q ∈ m, q.1 ≠ k) : Has (n.drop (pathN k)) m := fun q hq => by
  rw [look_drop hw (pathN_lt _), if_neg (fun e => hd q hq (pathN_inj e).symm)]
  exact h q hq
/-- keys that are told apart -/
def Apart (m : List Pr) : Prop := m.Pairwise (fun a b => a.1 ≠ b.1)
theorem MapOk.apart {m : List Pr} (h : MapOk m) : Apart m := h.rise.imp (fun {a b} hab e => by rw [e, less_irrefl] at hab; cases hab)
theorem Apart.perm {m m' : List Pr} (h : Apart m) (hp : m'.Perm m) : Apart m' := (List.Perm.pairwise_iff (R := fun a b : Pr => a.1 ≠ b.1) (fun h e => h e.symm) hp).2 h
theorem Apart.value : ∀ {m : List Pr} (p : Pr), Apart m → p ∈ m → valueL m p.1 = p.2
  | q :: m, p, h, hp => by
    obtain ⟨h1, h2⟩ := List.pairwise_cons.1 h
    unfold valueL
    rcases List.mem_cons.1 hp with rfl | hp
    · rw [if_pos rfl]
    · rw [if_neg (h1 p hp)]
      exact Apart.value p h2 hp
/-- the tree x's map, in whatever order, and nothing else: the same tree -/
theorem same_tree {n n' : Nd} {m m' : List Pr} (h : Holds n m) (hw : n.WF) (hw' : n'.WF) (hp : m'.Perm m) (hh : Has n' m') (hs : Sup n' (fun k => ∃ p ∈ m', p.1 = k)) : n = n' := by
  refine WF_ext n n' hw hw' (fun r => ?_)
  by_cases e : ∃ p ∈ m', r = pathN p.1
  · obtain ⟨p, hpm, rfl⟩ := e
    have hpm2 := hp.mem_iff.1 hpm
    rw [hh p hpm, h.look p.1 (h.map.bound p hpm2).1]
    exact valueL_of m p h.map.rise hpm2
  · have h1 : (n'.look r).size = 0 := Classical.byContradiction (fun hc => by
      obtain ⟨k, ⟨p, hpm, hk⟩, hr⟩ := hs r hc
      exact e ⟨p, hpm, by rw [hr, hk]⟩)
    have h2 : (n.look r).size = 0 := Classical.byContradiction (fun hc => by
      obtain ⟨k, hr, hk⟩ := h.keys r hc
      subst hr
      have hv := h.look k hk
      rw [hv] at hc
      exact e ⟨_, hp.mem_iff.2 (valueL_mem m k hc), rfl⟩)
    rw [e0_of h1, e0_of h2]
/-- two places of a list, each in the other's -/
def swapL (m : List Pr) (i k : Nat) : List Pr := (m.set k (m.getD i pr0)).set i (m.getD k pr0)
theorem swap_len (m : List Pr) (i k : Nat) : (swapL m i k).length = m.length := by simp [swapL]
theorem swap_perm {m : List Pr} {i k : Nat} (hi : i < m.length) (hk : k < m.length) : (swapL m i k).Perm m := by
  have h := @List.set_set_perm _ m k i hk hi
  unfold swapL
  rw [List.getD_eq_getElem?_getD, List.getD_eq_getElem?_getD, List.getElem?_eq_getElem hi, List.getElem?_eq_getElem hk]
  exact h
theorem swap_take {m : List Pr} {i k : Nat} (hik : i ≤ k) (hk : k < m.length) : (swapL m i k).take (i + 1) = m.take i ++ [m.getD k pr0] := by
  have hl : i < (swapL m i k).length := by rw [swap_len]; omega
  rw [List.take_succ_eq_append_getElem hl]
  congr 1
  · unfold swapL
    rw [List.take_set, List.take_set, List.set_eq_of_length_le (by simp; omega), List.set_eq_of_length_le (by simp; omega)]
  · simp [swapL]
theorem ranked_rises {L : List Pr} (h : Ranked L) (hd : L.Pairwise (fun a b => a.1 ≠ b.1)) : Rises L := by
  unfold Rises
  rw [List.pairwise_iff_getElem] at hd ⊢
  intro i j hi hj hij
  have h1 := h i j hij hj
  rw [List.getD_eq_getElem?_getD, List.getD_eq_getElem?_getD, List.getElem?_eq_getElem hi, List.getElem?_eq_getElem hj] at h1
  have h1 : Op.bytesLess (L[j]).1.toList (L[i]).1.toList = false := h1
  rcases less_tri (L[i]).1.toList (L[j]).1.toList with k | k | k
  · exact k
  · exact absurd (str_inj k) (hd i j hi hj hij)
  · rw [k] at h1; cases h1
theorem perm_once {L K : List Pr} (h : L.Perm K) (hk : EntOk K) : EntOk L := ⟨fun p hp => hk.right p (h.mem_iff.1 hp), (List.Perm.pairwise_iff (R := fun a b : Pr => a.1 ≠ b.1) (fun h e => h e.symm) h).2 hk.once⟩
theorem told_same {L K R : List Pr} (hL : L.Perm R) (hK : K.Perm R) (hR : EntOk R) (h1 : Ranked L) (h2 : Ranked K) : L = K := by
  refine sorted_same (R := fun a b : Pr => Op.bytesLess a.1.toList b.1.toList = true) (fun a h => by rw [less_irrefl] at h; cases h) (fun {a b c} h h' => less_trans h h') L K (ranked_rises h1 (perm_once hL hR).once) (ranked_rises h2 (perm_once hK hR).once) (fun x => ?_)
  rw [hL.mem_iff, hK.mem_iff]
end Go.Proofs.YtgepjjebjhidiaaGreatDoor
