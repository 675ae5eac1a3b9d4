/-
  OUR OWN: StB CmA.
-/
import Derived.Test.YtgepjjebjhidiaaGreatDoorG37
import Derived.Test.YtgepjjebjhidiaaGreatDoorG33
import Derived.Test.YtgepjjebjhidiaaGreatDoorG17
import Derived.Test.YtgepjjebjhidiaaGreatDoorG31
import Derived.Test.YtgepjjebjhidiaaGreatDoorG34
namespace Go.Proofs.YtgepjjebjhidiaaGreatDoor
open Go.RowKit
attribute [local go_sem ↓] Go.wp_at_zero Go.wp_at_succ

/-- keep's own box -/
structure EBox (w W : World) : Prop where
  bel : Below w.heap.size w W
  box : W.heap[w.heap.size]? = some (.cells #[.string ⟨#[]⟩, .string ⟨#[]⟩] 48 (0, 0))
theorem EBox.start (w : World) : EBox w (w.alloc (.cells #[.string ⟨#[]⟩, .string ⟨#[]⟩] 48)) := ⟨below_alloc _ _, heap_alloc_new w _⟩
theorem EBox.keep {w W W' : World} (h : EBox w W) (hb : Below W.heap.size W W') : EBox w W' := ⟨h.bel.trans (hb.mono h.bel.size), (hb.block _ (Array.getElem?_eq_some_iff.1 h.box).1).trans h.box⟩
theorem EBox.cells {w W : World} (h : EBox w W) : W.cell? ⟨w.heap.size, 0, none⟩ = some (.string ⟨#[]⟩) ∧ W.cell? ⟨w.heap.size, 1, none⟩ = some (.string ⟨#[]⟩) ∧ W.frozen? ⟨w.heap.size, 0, none⟩ = false ∧ W.frozen? ⟨w.heap.size, 1, none⟩ = false :=
  ⟨cell_of_row _ _ 0 _ _ (0, 0) h.box, cell_of_row _ _ 1 _ _ (0, 0) h.box, frozen_of_row _ _ _ _ _ h.box, frozen_of_row _ _ _ _ _ h.box⟩
theorem setTwo {w : World} {R : Nat} {T : TypeId} {a b : Value} (h : w.heap[R]? = some (.cells #[a, b] T (0, 0))) (x y : Value) : ((w.setCell ⟨R, 0, none⟩ x).setCell ⟨R, 1, none⟩ y).heap[R]? = some (.cells #[x, y] T (0, 0)) := by
  have h1 : (w.setCell ⟨R, 0, none⟩ x).heap[R]? = some (.cells #[x, b] T (0, 0)) := heap_setCell_same w R 0 _ T x h
  exact heap_setCell_same _ R 1 _ T y h1
theorem belowTwo {B : Nat} {a w : World} (h : Below B a w) {R : Nat} (hR : B ≤ R) (x y : Value) : Below B a ((w.setCell ⟨R, 0, none⟩ x).setCell ⟨R, 1, none⟩ y) := (h.setCell (p := ⟨R, 0, none⟩) hR x).setCell (p := ⟨R, 1, none⟩) hR y
set_option maxHeartbeats 2000000 in
set_option maxRecDepth 20000 in
theorem keep_old (M : Nat) (S : List Pr) (c : ByteArray) (w : World) (hT : TbZ w) (hS : StoreAt w M S) (hr : ∀ p ∈ S, p.1 = hashOf p.2 ∧ p.2.size ≤ 3000) (hc : c.size ≤ 3000) (hh : hasN S (hashOf c) = true) :
    Calls Tryz.prog 41 #[.map (some M), .string c] w fun e w' => e = .returned (.tuple #[entV (e0, e0), .bool false]) ∧ Below w.heap.size w w' := by
  obtain ⟨p, hp⟩ : ∃ p, S.find? (fun p => decide (p.1 = hashOf c)) = some p := by
    unfold hasN at hh
    exact Option.isSome_iff_exists.1 hh
  have hpm := List.mem_of_find?_eq_some hp
  have hpk : p.1 = hashOf c := by have := List.find?_some hp; simpa using this
  obtain ⟨hp1, hp2⟩ := hr p hpm
  have HSum := hide (fun W (hW : Below w.heap.size w W) => sumZ_any c W (hT.keep hW) (by omega))
  have HL : Hid (∀ W, Below w.heap.size w W → (Instr.lookup 53 (.map (some M)) (.string (hashOf c)) true).run Tryz.prog W = .ok (.tuple #[entV p, .bool true]) W) := fun W hW => look_some' (hS.keep (hW.block _ hS.lt)) hp
  have HRi := hide (fun W (hW : Below w.heap.size w W) => isRight_any p.2 (hashOf c) W (hT.keep hW) (by omega))
  rw [← hp1, hpk] at HRi
  have hbq : ((hashOf c).toList == (hashOf c).toList) = true := beq_self_eq_true _
  rw [hbq] at HRi
  clear hT hS hr hh hp hpm hbq hp1
  generalize hashOf c = H at *
  obtain ⟨p1, p2⟩ := p
  obtain rfl : p1 = H := hpk
  dsimp only [entV] at *
  have HB0 := hide (EBox.start w)
  go_enter Tryz.func41, Tryz.ntmps41
  go_wp2_with fail
  refine (HSum.out _ HB0.out.bel).mono ?_
  rintro e w1 ⟨rfl, hb1⟩
  have HB1 := hide (HB0.out.keep hb1)
  have hl1 := HL.out w1 HB1.out.bel
  clear hb1
  go_wp2_with fail
  refine (HRi.out _ (HB1.out.keep (below_alloc w1 _)).bel).mono ?_
  rintro e w2 ⟨rfl, hb2⟩
  have HB2 := hide ((HB1.out.keep (below_alloc w1 _)).keep hb2)
  obtain ⟨z0, z1, f0, f1⟩ := HB2.out.cells
  clear hb2 hl1
  go_wp2
  have hfin := setTwo HB2.out.box (.string ⟨#[]⟩) (.string ⟨#[]⟩)
  have r0 := cell_of_row _ _ 0 _ _ (0, 0) hfin
  have r1 := cell_of_row _ _ 1 _ _ (0, 0) hfin
  refine bodyPost_ret (v := .tuple #[.agg #[.string e0, .string e0], .bool false]) (by simp [results, Tryz.results41, go_sem, r0, r1, e0]) rfl ⟨rfl, ?_⟩
  exact belowTwo HB2.out.bel (Nat.le_refl _) _ _
/-- what keep answers of a new code -/
def KeptNew (M : Nat) (S : List Pr) (h c : ByteArray) (w : World) (e : Ending) (w' : World) : Prop := e = .returned (.tuple #[entV (h, c), .bool true]) ∧ StoreAt w' M (S ++ [(h, c)]) ∧ w.grownBy w' (some M)
set_option maxHeartbeats 2000000 in
set_option maxRecDepth 20000 in
theorem keep_new (M : Nat) (S : List Pr) (c : ByteArray) (w : World) (hT : TbZ w) (hS : StoreAt w M S) (hc : c.size ≤ 3000) (hh : hasN S (hashOf c) = false) :
    Calls Tryz.prog 41 #[.map (some M), .string c] w fun e w' => KeptNew M S (hashOf c) c w e w' := by
  have hp : S.find? (fun p => decide (p.1 = hashOf c)) = none := by
    unfold hasN at hh
    cases h : S.find? (fun p => decide (p.1 = hashOf c)) with
    | none => rfl
    | some p => rw [h] at hh; cases hh
  have hMl := hS.lt
  have HSum := hide (fun W (hW : Below w.heap.size w W) => sumZ_any c W (hT.keep hW) (by omega))
  have HL : Hid (∀ W, Below w.heap.size w W → (Instr.lookup 53 (.map (some M)) (.string (hashOf c)) true).run Tryz.prog W = .ok (.tuple #[entV (e0, e0), .bool false]) W) := fun W hW => look_none (hS.keep (hW.block _ hS.lt)) hp
  have HU : Hid (∀ W, EBox w W → ∃ w', (Instr.mapUpdate 53 (.map (some M)) (.string (hashOf c)) (entV (hashOf c, c))).run Tryz.prog W = .ok () w' ∧ StoreAt w' M (S ++ [(hashOf c, c)]) ∧ w.grownBy w' (some M) ∧ w'.heap[w.heap.size]? = some (.cells #[.string ⟨#[]⟩, .string ⟨#[]⟩] 48 (0, 0))) := fun W hW => by
    obtain ⟨w', h1, h2, h3, h4, h5⟩ := lay_new (x := c) (hS.keep (hW.bel.block _ hMl)) hp
    refine ⟨w', h1, h2, ⟨h3.os.trans hW.bel.os, h3.tape.trans hW.bel.tape, h3.output.trans hW.bel.output, by rw [h4]; exact hW.bel.size, fun k hk hn => ?_⟩, ?_⟩
    · rw [h5 k (fun e => hn (by rw [e]))]
      exact hW.bel.block k hk
    · rw [h5 _ (by omega)]
      exact hW.box
  have HCl := hide (fun (x : ByteArray) (hx : x.size ≤ 3000) W => clone_any x W (by omega))
  have hHs : (hashOf c).size ≤ 3000 := by rw [hashOf_size]; omega
  clear hT hS hh hp
  generalize hashOf c = H at *
  dsimp only [entV] at HL HU
  have HB0 := hide (EBox.start w)
  go_enter Tryz.func41, Tryz.ntmps41
  go_wp2_with fail
  refine (HSum.out _ HB0.out.bel).mono ?_
  rintro e w1 ⟨rfl, hb1⟩
  have HB1 := hide (HB0.out.keep hb1)
  have hl1 := HL.out w1 HB1.out.bel
  obtain ⟨w2, hu1, hu2⟩ := HU.out _ (HB1.out.keep (below_alloc w1 (.cells #[.string e0, .string e0] 48)))
  have HU2 := hide hu2
  clear hb1 hu2
  unfold e0 at *
  go_wp2_with fail
  refine (HCl.out H hHs _).mono ?_
  rintro e w3 ⟨rfl, hb3⟩
  have HB3 := hide hb3
  clear hb3
  go_wp2_with fail
  refine (HCl.out c hc _).mono ?_
  rintro e w4 ⟨rfl, hb4⟩
  have hb5 := HB3.out.trans (hb4.mono HB3.out.size)
  obtain ⟨m1, m2, m3⟩ := HU2.out
  have hbx := (hb5.block _ (Array.getElem?_eq_some_iff.1 m3).1).trans m3
  have z0 := cell_of_row _ _ 0 _ _ (0, 0) hbx
  have z1 := cell_of_row _ _ 1 _ _ (0, 0) hbx
  have f0 : w4.frozen? ⟨w.heap.size, 0, none⟩ = false := frozen_of_row _ _ _ _ _ hbx
  have f1 : w4.frozen? ⟨w.heap.size, 1, none⟩ = false := frozen_of_row _ _ _ _ _ hbx
  have HF := hide (And.intro hb5 hbx)
  clear hb4 hb5 m1 m2 m3 hbx
  go_wp2
  have hfin := setTwo HF.out.2 (.string H) (.string c)
  have r0 := cell_of_row _ _ 0 _ _ (0, 0) hfin
  have r1 := cell_of_row _ _ 1 _ _ (0, 0) hfin
  refine bodyPost_ret (v := .tuple #[.agg #[.string H, .string c], .bool true]) (by simp [results, Tryz.results41, go_sem, r0, r1]) rfl ⟨rfl, ?_⟩
  obtain ⟨m1, m2, m3⟩ := HU2.out
  have hb6 : Below w2.heap.size w2 w4 := HF.out.1
  have hoth : ∀ k, k ≠ w.heap.size → ((w4.setCell ⟨w.heap.size, 0, none⟩ (.string H)).setCell ⟨w.heap.size, 1, none⟩ (.string c)).heap[k]? = w4.heap[k]? := fun k hk => by
    rw [Below.heap_setCell _ _ _ _ (fun e => hk e), Below.heap_setCell _ _ _ _ (fun e => hk e)]
  refine ⟨m1.keep ?_, ⟨?_, ?_, ?_, ?_, fun k hk hn => ?_⟩⟩
  · rw [hoth _ (by omega)]
    exact hb6.block _ m1.lt
  · exact hb6.os.trans m2.os
  · exact hb6.tape.trans m2.tape
  · exact hb6.output.trans m2.output
  · have e : ((w4.setCell ⟨w.heap.size, 0, none⟩ (.string H)).setCell ⟨w.heap.size, 1, none⟩ (.string c)).heap.size = w4.heap.size := by simp [World.setCell]
    rw [e]
    exact Nat.le_trans m2.size hb6.size
  · rw [hoth _ (by omega), hb6.block _ (Nat.lt_of_lt_of_le hk m2.size)]
    exact m2.block k hk hn
end Go.Proofs.YtgepjjebjhidiaaGreatDoor
namespace Go.Proofs.YtgepjjebjhidiaaGreatDoor
open Go.RowKit Go.Shelf

theorem nodes_cb : ∀ (n : Nd), CB n → ∀ m ∈ n.nodesL, CB m
  | .nil, _, m, hm => by simp [Nd.nodesL] at hm
  | .leaf p x, h, m, hm => by
    have e : m = .leaf p x := by simpa [Nd.nodesL] using hm
    rw [e]; exact h
  | .ext p n, h, m, hm => by
    rcases List.mem_cons.1 hm with rfl | hm
    · exact h
    · exact nodes_cb n h.ext m hm
  | .br c x, h, m, hm => by
    rcases List.mem_cons.1 hm with rfl | hm
    · exact h
    · obtain ⟨i, _, hi⟩ := List.mem_flatMap.1 hm
      exact nodes_cb (c i) (h.kid i) m hi
theorem newE_sub (S : List Pr) (cs : List ByteArray) : ∀ p ∈ newE S cs, p.2 ∈ cs := by
  have h : ∀ (cs : List ByteArray) (told : List Pr), ∀ p ∈ cs.foldl (stepE S) told, p ∈ told ∨ p.2 ∈ cs := by
    intro cs
    induction cs with
    | nil => exact fun told p hp => .inl hp
    | cons c cs ih =>
      intro told p hp
      rcases ih _ p hp with h | h
      · unfold stepE at h
        split at h
        · exact .inl h
        · rcases List.mem_append.1 h with h | h
          · exact .inl h
          · have e : p = (hashOf c, c) := by simpa using h
            rw [e]; exact .inr (List.mem_cons_self ..)
      · exact .inr (List.mem_cons_of_mem _ h)
  intro p hp
  rcases h cs [] p hp with h | h
  · simp at h
  · exact h
theorem newE_len (S : List Pr) (cs : List ByteArray) : (newE S cs).length ≤ cs.length := by
  have h : ∀ (cs : List ByteArray) (told : List Pr), (cs.foldl (stepE S) told).length ≤ told.length + cs.length := by
    intro cs
    induction cs with
    | nil => exact fun told => Nat.le_refl _
    | cons c cs ih =>
      intro told
      have h1 := ih (stepE S told c)
      have h2 : (stepE S told c).length ≤ told.length + 1 := by
        unfold stepE
        split
        · omega
        · simp
      rw [List.foldl_cons, List.length_cons]
      omega
  have := h cs []
  rw [List.length_nil, Nat.zero_add] at this
  exact this
theorem nodes_len : ∀ (n : Nd), n.nodesL.length = n.sz
  | .nil => rfl
  | .leaf _ _ => rfl
  | .ext _ n => by simp [Nd.nodesL, Nd.sz, nodes_len n]
  | .br c _ => by
    have h : ((List.range 16).map fun i => ((c i).nodesL).length) = (List.range 16).map fun i => (c i).sz := List.map_congr_left (fun i _ => nodes_len (c i))
    show (_ :: (List.range 16).flatMap fun i => (c i).nodesL).length = _ + 1
    rw [List.length_cons, List.length_flatMap, h]
theorem told_len {S : List Pr} {n : Nd} {ms : List Nd} (h : ms <+: n.nodesL) : (newE S (codesOf n ms)).length ≤ n.sz := by
  have h1 := newE_len S (codesOf n ms)
  have h2 : (codesOf n ms).length ≤ ms.length := by
    unfold codesOf
    rw [List.length_map]
    exact List.length_filter_le _ _
  have h3 := h.length_le
  rw [nodes_len] at h3
  omega
/-- entries that are right, and short -/
def StOk (S : List Pr) : Prop := ∀ p ∈ S, p.1 = hashOf p.2 ∧ p.2.size ≤ 3000
theorem told_ok {S : List Pr} (hS : StOk S) {n : Nd} (hC : CB n) {ms : List Nd} (hms : ms <+: n.nodesL) : StOk (S ++ newE S (codesOf n ms)) := fun p hp => by
  rcases List.mem_append.1 hp with hp | hp
  · exact hS p hp
  · refine ⟨(newE_ok S _).right p hp, ?_⟩
    obtain ⟨m, hm, e⟩ := List.mem_map.1 (newE_sub S _ p hp)
    rw [← e]
    exact code_size (nodes_cb n hC m (hms.subset (List.mem_filter.1 hm).1))
/-- a node's code, of whichever kind -/
theorem node_code (ok : Nat → Prop) (m : Nd) (v : Value) (W : World) (hn : NdAt HkC ok W m v) (hnn : m ≠ .nil) :
    ∃ t b fid, v = .iface t (ptr b) ∧ (∀ w, (method 336 t (ptr b) "canopy/tree.code").run Tryz.prog w = .ok (fid, ptr b) w) ∧ (∀ args w, (callFunc fid args).run Tryz.prog w = .ok (.enter fid args) w) ∧
      (∀ W', TbZ W' → (∀ k, ok k → 3 ≤ k ∧ k < W'.heap.size) → CB m → NdAt HkC ok W' m (.iface t (ptr b)) → Calls Tryz.prog fid #[ptr b] W' fun e w' => codePost ok m W' e w') := by
  cases m with
  | nil => exact absurd rfl hnn
  | leaf p x =>
    obtain ⟨b, _, _, e, _⟩ := id hn
    exact ⟨_, b, _, e, meth_co_leaf b, fun _ _ => by kernel_rfl, fun W' hT hok hC h => nCode_all (.leaf p x) ok b W' hT hok hC h⟩
  | ext p m =>
    obtain ⟨b, _, _, _, _, e, _⟩ := id hn
    exact ⟨_, b, _, e, meth_co_ext b, fun _ _ => by kernel_rfl, fun W' hT hok hC h => nCode_all (.ext p m) ok b W' hT hok hC h⟩
  | br c x =>
    obtain ⟨b, _, _, e, _⟩ := id hn
    exact ⟨_, b, _, e, meth_co_br b, fun _ _ => by kernel_rfl, fun W' hT hok hC h => nCode_all (.br c x) ok b W' hT hok hC h⟩
/-- what a Commit leaves alone: w the world that it was called in -/
structure CmK (ok : Nat → Prop) (M : Nat) (w A : World) : Prop where
  os : A.os = w.os
  tape : A.tape = w.tape
  output : A.output = w.output
  size : w.heap.size ≤ A.heap.size
  far : ∀ (k : Nat), k < w.heap.size → ¬ ok k → k ≠ M → A.heap[k]? = w.heap[k]?
  node : ∀ (m : Nd) (v : Value), NdAt HkC ok w m v → NdAt HkC ok A m v
theorem CmK.refl (ok : Nat → Prop) (M : Nat) (w : World) : CmK ok M w w := ⟨rfl, rfl, rfl, Nat.le_refl _, fun _ _ _ _ => rfl, fun _ _ h => h⟩
theorem CmK.keepH {ok : Nat → Prop} {M : Nat} {w A A' : World} (h : CmK ok M w A) (hk : KeepH ok A A') : CmK ok M w A' :=
  ⟨hk.os.trans h.os, hk.tape.trans h.tape, hk.output.trans h.output, Nat.le_trans h.size hk.size, fun k hl ho hm => (hk.far k (Nat.lt_of_lt_of_le hl h.size) ho).trans (h.far k hl ho hm), fun m v hn => hk.node ok m v (h.node m v hn)⟩
theorem CmK.below {ok : Nat → Prop} {M : Nat} {w A A' : World} (h : CmK ok M w A) (hb : Below A.heap.size A A') : CmK ok M w A' := h.keepH (KeepH.of_below hb)
/-- blocks that came since, and the store's own -/
theorem CmK.grown {ok : Nat → Prop} {M : Nat} {w A A' : World} {r : Option Nat} (h : CmK ok M w A) (hg : A.grownBy A' r) (hok : ∀ k, ok k → k < w.heap.size ∧ k ≠ M) (hr : ∀ k, r = some k → k = M ∨ w.heap.size ≤ k) : CmK ok M w A' :=
  ⟨hg.os.trans h.os, hg.tape.trans h.tape, hg.output.trans h.output, Nat.le_trans h.size hg.size, fun k hl ho hm => by
    rw [hg.block k (Nat.lt_of_lt_of_le hl h.size) (fun e => by rcases hr k e.symm with e | e; exact hm e; omega)]
    exact h.far k hl ho hm, fun m v hn => NdAt.keepIn (fun k hk hlt => hg.block k hlt (fun e => by
      have h1 := hok k hk
      rcases hr k e.symm with e | e
      · exact h1.2 e
      · omega)) _ _ (h.node m v hn)⟩
theorem CmK.tb {ok : Nat → Prop} {M : Nat} {w A : World} (h : CmK ok M w A) (hT : TbZ w) (hok : ∀ k, ok k → 3 ≤ k) (hM : 3 ≤ M) : TbZ A := by
  have h3 := hT.three
  refine ⟨⟨fun j hj => ?_, fun j hj => ?_⟩, Nat.le_trans h3 h.size⟩
  · exact (World.cell?_of_block (w := w) (a := ⟨1, j, none⟩) (h.far _ (by show 1 < _; omega) (fun e => by have h : 3 ≤ 1 := hok _ e; omega) (by show 1 ≠ M; omega))).trans (hT.tabs.rcs j hj)
  · exact (World.cell?_of_block (w := w) (a := ⟨2, j, none⟩) (h.far _ (by show 2 < _; omega) (fun e => by have h : 3 ≤ 2 := hok _ e; omega) (by show 2 ≠ M; omega))).trans (hT.tabs.tus j hj)
/-- Commit's own: the boxes, what is told so far, the store -/
structure CmI (ok : Nat → Prop) (T M : Nat) (S : List Pr) (w : World) (L : List Pr) (A : World) : Prop where
  kept : CmK ok M w A
  tbox : A.heap[w.heap.size]? = some (.cells #[ptr T] 68 (0, 0))
  told : ∃ v, A.heap[w.heap.size + 1]? = some (.cells #[v] 43 (0, 0)) ∧ A.ownsRow (w.heap.size + 3) 48 2 v L.length (pairCells L)
  store : StoreAt A M (S ++ L)
theorem CmI.keepH {ok : Nat → Prop} {T M : Nat} {S L : List Pr} {w A A' : World} (h : CmI ok T M S w L A) (hk : KeepH ok A A') : CmI ok T M S w L A' := by
  obtain ⟨v, h1, h2⟩ := h.told
  refine ⟨h.kept.keepH hk, hk.other _ _ h.tbox (fun cs t fr e => by injection e with _ e _; subst e; exact ⟨by decide, by decide⟩), ⟨v, hk.other _ _ h1 (fun cs t fr e => by injection e with _ e _; subst e; exact ⟨by decide, by decide⟩), h2.1, ?_⟩, ?_⟩
  · rcases h2.2 with h3 | ⟨g, c, cur, k1, k2, k3, k4⟩
    · exact .inl h3
    · exact .inr ⟨g, c, cur, k1, k2, hk.other _ _ k3 (fun cs t fr e => by injection e with _ e _; subst e; exact ⟨by decide, by decide⟩), k4⟩
  · obtain ⟨es, c, g1, g2⟩ := h.store.at'
    exact ⟨es, c, hk.other _ _ g1 (fun cs t fr e => by cases e), g2⟩
theorem CmI.below {ok : Nat → Prop} {T M : Nat} {S L : List Pr} {w A A' : World} (h : CmI ok T M S w L A) (hb : Below A.heap.size A A') : CmI ok T M S w L A' := h.keepH (KeepH.of_below hb)
theorem CmI.turn {ok : Nat → Prop} {T M B : Nat} {S L : List Pr} {w A A' : World} (h : CmI ok T M S w L A) (ht : Turned B A A') (hB : w.heap.size ≤ B) (hM : M < w.heap.size) : CmI ok T M S w L A' := by
  obtain ⟨v, h1, h2⟩ := h.told
  refine ⟨⟨ht.os.trans h.kept.os, ht.tape.trans h.kept.tape, ht.output.trans h.kept.output, Nat.le_trans h.kept.size ht.size, fun k hl ho hm => ?_, fun m v hn => NdAt.keepP (KpP.of_turned ht) m v (h.kept.node m v hn)⟩, ht.same _ _ h.tbox (.inr rfl), ⟨v, ht.same _ _ h1 (.inr rfl), h2.1, ?_⟩, ?_⟩
  · rw [← h.kept.far k hl ho hm]
    have hlt : k < A.heap.size := Nat.lt_of_lt_of_le hl h.kept.size
    rw [Array.getElem?_eq_getElem hlt]
    exact ht.same k _ (Array.getElem?_eq_getElem hlt) (.inl (by omega))
  · rcases h2.2 with h3 | ⟨g, c, cur, k1, k2, k3, k4⟩
    · exact .inl h3
    · exact .inr ⟨g, c, cur, k1, k2, ht.same _ _ k3 (.inr rfl), k4⟩
  · obtain ⟨es, c, g1, g2⟩ := h.store.at'
    exact ⟨es, c, ht.same _ _ g1 (.inl (by omega)), g2⟩
/-- a new entry is told -/
theorem CmI.lay {ok : Nat → Prop} {T M B : Nat} {S L : List Pr} {w A A4 w9 : World} {hc c : ByteArray} {v v' : Value} {c1 c2 : Array Value} (h : CmI ok T M S w L A) (hM : M < w.heap.size) (hok : ∀ k, ok k → k < w.heap.size ∧ k ≠ M) (hB : w.heap.size ≤ B)
    (hkept : A.grownBy A4 (some M)) (hst : StoreAt A4 M (S ++ L ++ [(hc, c)])) (hbox : A.heap[w.heap.size + 1]? = some (.cells #[v] 43 (0, 0))) (hrow : A.ownsRow (w.heap.size + 3) 48 2 v L.length (pairCells L))
    (ho : w9.ownsRow (w.heap.size + 3) 48 2 v' (L.length + 1) (pairCells L ++ [.string hc, .string c])) (hg : ((A4.alloc (.cells c1 48)).alloc (.cells c2 48)).grownBy w9 v.ownBlock) :
    w9.heap[w.heap.size + 1]? = some (.cells #[v] 43 (0, 0)) ∧ CmI ok T M S w (L ++ [(hc, c)]) (w9.setCell ⟨w.heap.size + 1, 0, none⟩ v') ∧ KpC ok A (w9.setCell ⟨w.heap.size + 1, 0, none⟩ v') ∧ Pays B A (w9.setCell ⟨w.heap.size + 1, 0, none⟩ v') := by
  have hr1 : ∀ g, v.ownBlock = some g → w.heap.size + 3 ≤ g ∧ ∃ cur, A.heap[g]? = some (.cells cur 48 (0, 0)) := fun g e => by
    refine ⟨own_ge hrow (Nat.le_refl _) g e, ?_⟩
    rcases hrow.2 with ⟨rfl, _⟩ | ⟨g', cap, cur, rfl, _, hh, _⟩
    · cases e
    · have e : g' = g := by simpa [Value.ownBlock] using e
      subst e
      exact ⟨cur, hh⟩
  have hA4s := hkept.size
  have h94 : ∀ k, k < A.heap.size → k ≠ M → v.ownBlock ≠ some k → w9.heap[k]? = A.heap[k]? := fun k hk hm hv => by
    rw [hg.block k (by simp; omega) (fun e => hv e.symm), Below.heap_alloc _ _ _ (by simp; omega), Below.heap_alloc _ _ _ (by omega)]
    exact hkept.block k hk (fun e => hm (by injection e))
  have hlt1 := (Array.getElem?_eq_some_iff.1 hbox).1
  have hnb : v.ownBlock ≠ some (w.heap.size + 1) := fun e => by have := (hr1 _ e).1; omega
  have hbox9 := (h94 _ hlt1 (by omega) hnb).trans hbox
  have hfin : ∀ k, k ≠ w.heap.size + 1 → (w9.setCell ⟨w.heap.size + 1, 0, none⟩ v').heap[k]? = w9.heap[k]? := fun k hk => Below.heap_setCell _ _ _ _ (fun e => hk e)
  have hall : ∀ k, k < A.heap.size → k ≠ M → v.ownBlock ≠ some k → k ≠ w.heap.size + 1 → (w9.setCell ⟨w.heap.size + 1, 0, none⟩ v').heap[k]? = A.heap[k]? := fun k hk hm hv h1 => (hfin k h1).trans (h94 k hk hm hv)
  have hsz9 : (w9.setCell ⟨w.heap.size + 1, 0, none⟩ v').heap.size = w9.heap.size := by simp [World.setCell]
  have hsz : A.heap.size ≤ w9.heap.size := by have := hg.size; simp at this; omega
  have hnode : ∀ (m : Nd) (x : Value), NdAt HkC ok A m x → NdAt HkC ok (w9.setCell ⟨w.heap.size + 1, 0, none⟩ v') m x := fun m x hx => NdAt.keepIn (fun k hk hlt => by
    have h1 := hok k hk
    exact hall k hlt h1.2 (fun e => by have := (hr1 _ e).1; omega) (by omega)) m x hx
  refine ⟨hbox9, ⟨⟨?_, ?_, ?_, ?_, fun k hl hk hm => ?_, fun m x hx => hnode m x (h.kept.node m x hx)⟩, ?_, ⟨v', heap_setCell_same w9 _ 0 _ _ v' hbox9, ?_⟩, ?_⟩, ⟨by rw [hsz9]; exact hsz, fun k cs t fr hk n1 n2 n3 n4 => ?_, hnode⟩, fun k o hk ho' hc' => ?_⟩
  · exact hg.os.trans (hkept.os.trans h.kept.os)
  · exact hg.tape.trans (hkept.tape.trans h.kept.tape)
  · exact hg.output.trans (hkept.output.trans h.kept.output)
  · rw [hsz9]; exact Nat.le_trans h.kept.size hsz
  · rw [hall k (Nat.lt_of_lt_of_le hl h.kept.size) hm (fun e => by have := (hr1 _ e).1; omega) (by omega)]
    exact h.kept.far k hl hk hm
  · rw [hall _ (Array.getElem?_eq_some_iff.1 h.tbox).1 (by omega) (fun e => by have := (hr1 _ e).1; omega) (by omega)]
    exact h.tbox
  · rw [List.length_append, pairCells_append]
    refine own_far ho (fun g hgo _ => hfin g (fun e => ?_))
    have := own_ge ho (Nat.le_refl _) g hgo
    omega
  · rw [← List.append_assoc]
    refine hst.keep ?_
    rw [hfin M (by omega), hg.block M (by have := hst.lt; simp; omega) (fun e => by have := (hr1 _ e.symm).1; omega), Below.heap_alloc _ _ _ (by have := hst.lt; simp; omega), Below.heap_alloc _ _ _ hst.lt]
  · refine (hall k (Array.getElem?_eq_some_iff.1 hk).1 (fun e => ?_) (fun e => ?_) (fun e => ?_)).trans hk
    · obtain ⟨es, cl, g1, _⟩ := h.store.at'
      rw [e, g1] at hk
      cases hk
    · obtain ⟨_, cur, g1⟩ := hr1 k e
      rw [g1] at hk
      injection hk with hk
      injection hk with _ hk _
      exact n3 hk.symm
    · rw [e, hbox] at hk
      injection hk with hk
      injection hk with _ hk _
      exact n4 hk.symm
  · refine (hall k (Array.getElem?_eq_some_iff.1 ho').1 (by omega) (fun e => ?_) (fun e => ?_)).trans ho'
    · obtain ⟨_, cur, g1⟩ := hr1 k e
      rw [g1] at ho'
      injection ho' with ho'
      rw [← ho'] at hc'
      cases hc'
    · rw [e, hbox] at ho'
      injection ho' with ho'
      rw [← ho'] at hc'
      cases hc'
theorem KpC.of_grown {ok : Nat → Prop} {M : Nat} {S : List Pr} {A A' : World} (h : StoreAt A M S) (hg : A.grownBy A' (some M)) (hok : ∀ k, ok k → k ≠ M) : KpC ok A A' :=
  ⟨hg.size, fun k cs t fr hk _ _ _ _ => (hg.block k (Array.getElem?_eq_some_iff.1 hk).1 (fun e => by
    injection e with e
    obtain ⟨es, cl, g1, _⟩ := h.at'
    rw [e, g1] at hk
    cases hk)).trans hk, fun m x hx => NdAt.keepIn (fun k hk hlt => hg.block k hlt (fun e => hok k hk (by injection e))) m x hx⟩
theorem Pays.of_keepH {ok : Nat → Prop} {B : Nat} {A A' : World} (h : KeepH ok A A') : Pays B A A' := fun k o _ ho hc => h.other k o ho (fun cs t fr e => by rw [e] at hc; cases hc)
end Go.Proofs.YtgepjjebjhidiaaGreatDoor
