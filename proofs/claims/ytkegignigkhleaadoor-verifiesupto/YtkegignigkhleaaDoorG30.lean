/-
  OUR OWN: VpG VpG2 VpH VpI.
-/
import Derived.Test.YtkegignigkhleaaDoorG29
import Derived.Test.YtkegignigkhleaaDoorG25
import Derived.Deep.RegionHeld3
namespace Go.Proofs.YtkegignigkhleaaDoor
open Go.RowKit
attribute [local go_sem ↓] Go.wp_at_zero Go.wp_at_succ

set_option maxHeartbeats 2000000 in
set_option maxRecDepth 20000 in
theorem pathed_notext (P : ByteArray → Nat → Option Nx) (a b : ByteArray) (d : Nat) (w : World) (ha : a.size ≤ 6000) (h : txt a = none) :
    Calls Tryd.prog 51 #[.string a, .string b, .int .i64 (d : Int)] w fun e w' => ParsePost (pathedF P a b d) w e w' := by
  have HT := hide (text_any a · ha)
  have HX := hide h
  have HP : Hid (pathedF P a b d = none) := by show _ = _; unfold pathedF; rw [h]
  clear h
  go_enter Tryd.func51, Tryd.ntmps51
  go_wp2_with fail
  refine (HT.out _).mono ?_
  rintro e w1 ⟨rfl, hb1⟩
  rw [HX.out]
  simp only [Option.getD_none, Option.isSome_none]
  have HB1 := hide hb1
  clear hb1
  go_wp2
  go_ret2
  exact ParsePost.of .nilIface (.inl rfl) (by rw [HP.out]; rfl) (fun n hn => by rw [HP.out] at hn; cases hn) HB1.out
set_option maxHeartbeats 2000000 in
set_option maxRecDepth 20000 in
theorem pathed_nopath (P : ByteArray → Nat → Option Nx) (a b pk : ByteArray) (d : Nat) (w : World) (ha : a.size ≤ 6000) (h : txt a = some pk) (hu : unpL pk.data.toList = none) (hd : d ≤ 300) :
    Calls Tryd.prog 51 #[.string a, .string b, .int .i64 (d : Int)] w fun e w' => ParsePost (pathedF P a b d) w e w' := by
  have HT := hide (text_any a · ha)
  have HX := hide h
  have HP : Hid (pathedF P a b d = none) := by show _ = _; unfold pathedF; rw [h]; simp only; rw [hu]
  have hz := txt_size h
  have HU := hide (fun W => pUnpack_none pk W (by omega) hu)
  have i1 : (d : Int) ≤ 300 := by omega
  have i2 : (0 : Int) ≤ (d : Int) := by omega
  clear h hu hz
  go_enter Tryd.func51, Tryd.ntmps51
  go_wp2_with fail
  refine (HT.out _).mono ?_
  rintro e w1 ⟨rfl, hb1⟩
  rw [HX.out]
  simp only [Option.getD_some, Option.isSome_some]
  have HB1 := hide hb1
  clear hb1
  go_wp2_with fail
  refine (HU.out _).mono ?_
  rintro e w2 ⟨rfl, hb2⟩
  have HB2 := hide (HB1.out.trans (hb2.mono HB1.out.size))
  clear hb2
  go_wp2
  go_ret2
  exact ParsePost.of .nilIface (.inl rfl) (by rw [HP.out]; rfl) (fun n hn => by rw [HP.out] at hn; cases hn) HB2.out
set_option maxHeartbeats 2000000 in
set_option maxRecDepth 20000 in
theorem pathed_far (P : ByteArray → Nat → Option Nx) (a b pk : ByteArray) (d : Nat) (p : List Int) (lf : Bool) (w : World) (ha : a.size ≤ 6000) (h : txt a = some pk) (hu : unpL pk.data.toList = some (p, lf)) (hd : d ≤ 300) (hf : 128 < d + p.length) :
    Calls Tryd.prog 51 #[.string a, .string b, .int .i64 (d : Int)] w fun e w' => ParsePost (pathedF P a b d) w e w' := by
  have HT := hide (text_any a · ha)
  have HX := hide h
  have HP : Hid (pathedF P a b d = none) := by show _ = _; unfold pathedF; rw [h]; simp only; rw [hu]; simp only; rw [if_pos hf]
  have HU := hide (fun W => pUnpack_some pk W p lf hu)
  have hl := unpV_len hu
  have k1 : IntKind.i64.wrap ((d : Int) + (p.length : Int)) = (d : Int) + (p.length : Int) := by rw [IntKind.wrap_i64]; omega
  have i1 : (128 : Int) < (d : Int) + (p.length : Int) := by omega
  clear h hu hf hl
  go_enter Tryd.func51, Tryd.ntmps51
  go_wp2_with fail
  refine (HT.out _).mono ?_
  rintro e w1 ⟨rfl, hb1⟩
  rw [HX.out]
  simp only [Option.getD_some, Option.isSome_some]
  have HB1 := hide hb1
  clear hb1
  go_wp2_with fail
  refine (HU.out _).mono ?_
  rintro e w2 ⟨g, o, rfl, hfr, hg, hb2⟩
  have HB2 := hide (HB1.out.trans (hb2.mono HB1.out.size))
  clear hb2 hfr hg
  go_wp2
  go_ret2
  exact ParsePost.of .nilIface (.inl rfl) (by rw [HP.out]; rfl) (fun n hn => by rw [HP.out] at hn; cases hn) HB2.out
set_option maxHeartbeats 4000000 in
set_option maxRecDepth 20000 in
theorem pathed_leaf (P : ByteArray → Nat → Option Nx) (a b pk : ByteArray) (d : Nat) (p : List Int) (w : World) (ha : a.size ≤ 6000) (hbs : b.size ≤ 6000) (h : txt a = some pk) (hu : unpL pk.data.toList = some (p, true)) (hd : d ≤ 300) (hf : d + p.length ≤ 128) :
    Calls Tryd.prog 51 #[.string a, .string b, .int .i64 (d : Int)] w fun e w' => ParsePost (pathedF P a b d) w e w' := by
  have HT := hide (text_any a · ha)
  have HX := hide h
  have HP : Hid (pathedF P a b d = leafF p (pval b (d + p.length))) := by show _ = _; unfold pathedF; rw [h]; simp only; rw [hu]; simp only; rw [if_neg (by omega)]; simp
  have HU := hide (fun W => pUnpack_some pk W p true hu)
  have hl := unpV_len hu
  have k1 : IntKind.i64.wrap ((d : Int) + (p.length : Int)) = (d : Int) + (p.length : Int) := by rw [IntKind.wrap_i64]; omega
  have i1 : (d : Int) + (p.length : Int) ≤ 128 := by omega
  have HV : Hid (∀ W, Calls Tryd.prog 65 #[.string b, .int .i64 ((d : Int) + (p.length : Int))] W fun e w' => e = .returned (.tuple #[.string ((txt b).getD ⟨#[]⟩), .bool (pval b (d + p.length)).isSome]) ∧ Below W.heap.size W w') := fun W => by
    have := parseValue_any b (d + p.length) W hbs (by omega)
    rwa [Int.natCast_add] at this
  have HQ : Hid ((leafF p (pval b (d + p.length))).isSome = ((pval b (d + p.length)).isSome && !((txt b).getD ⟨#[]⟩).toList.isEmpty)) := by
    show _ = _
    unfold leafF
    cases hp : pval b (d + p.length) with
    | none => rfl
    | some v =>
      have ht : txt b = some v := by
        unfold pval at hp
        split at hp
        · cases hp
        · rename_i v' e
          split at hp
          · injection hp with hp; rw [e, hp]
          · cases hp
      rw [ht]
      simp only [Option.getD_some, Option.isSome_some, Bool.true_and]
      by_cases h0 : v.size = 0
      · rw [if_pos h0]
        obtain rfl := empty_of_size h0
        simp [ByteArray.toList_eq]
      · rw [if_neg h0, isEmptyV h0]; rfl
  have HQ2 : Hid (∀ n, leafF p (pval b (d + p.length)) = some n → n = .leaf p ((txt b).getD ⟨#[]⟩)) := by
    intro n hn
    unfold leafF at hn
    split at hn
    · cases hn
    · rename_i v hp
      split at hn
      · cases hn
      · injection hn with hn
        unfold pval at hp
        split at hp
        · cases hp
        · rename_i v' e
          split at hp
          · injection hp with hp; rw [e, ← hn, ← hp]; rfl
          · cases hp
  clear h hu hf hl
  generalize (txt b).getD ⟨#[]⟩ = val at *
  generalize (pval b (d + p.length)).isSome = okv at *
  go_enter Tryd.func51, Tryd.ntmps51
  go_wp2_with fail
  refine (HT.out _).mono ?_
  rintro e w1 ⟨rfl, hb1⟩
  rw [HX.out]
  simp only [Option.getD_some, Option.isSome_some]
  have HB1 := hide hb1
  clear hb1
  go_wp2_with fail
  refine (HU.out _).mono ?_
  rintro e w2 ⟨g, o, rfl, hfr, hg, hb2⟩
  have HB2 := hide (HB1.out.trans (hb2.mono HB1.out.size))
  have HG2 := hide (And.intro hfr (Nat.le_trans HB1.out.size hg))
  clear hb2 hfr hg
  go_wp2_with fail
  refine (HV.out _).mono ?_
  rintro e w3 ⟨rfl, hb3⟩
  have HB3 := hide hb3
  clear hb3
  have HFin : Hid (∀ W, Below w3.heap.size w3 W → W.heap[w3.heap.size]? = some (.cells #[.slice (some ⟨g, o, none⟩) p.length p.length, .string val] 135 (0, 0)) → NxAt (fun k => w.heap.size ≤ k) W (.leaf p val) (.iface 133 (ptr w3.heap.size)) e0) := fun W hW hc =>
    ⟨rfl, w3.heap.size, some ⟨g, o, none⟩, p.length, rfl, Nat.le_trans HB2.out.size HB3.out.size, hc, ⟨(HG2.out.1.ints.keep HB3.out).keep hW, fun a e _ => by injection e with e; subst e; exact HG2.out.2, Nat.le_refl _, ⟨g, o, rfl⟩⟩⟩
  unfold ptr at *
  cases okv with
  | true =>
    go_wp2
    all_goals go_ret2
    all_goals refine ParsePost.of (.iface 133 (.pointer (some ⟨w3.heap.size, 0, none⟩))) (.inr ⟨_, _, rfl⟩) (by rw [HP.out, HQ.out]; rfl) (fun n hn => ?_) ((HB2.out.trans (HB3.out.mono HB2.out.size)).trans (Below.mono (B := w3.heap.size) (by first | exact (below_alloc _ _).drew | exact below_alloc _ _) (Nat.le_trans HB2.out.size HB3.out.size)))
    all_goals
      rw [HP.out] at hn
      obtain rfl := HQ2.out n hn
      exact HFin.out _ (by first | exact (below_alloc _ _).drew | exact below_alloc _ _) (heap_alloc_new w3 _)
  | false =>
    go_wp2
    all_goals go_ret2
    all_goals refine ParsePost.of (.iface 133 (.pointer (some ⟨w3.heap.size, 0, none⟩))) (.inr ⟨_, _, rfl⟩) (by rw [HP.out, HQ.out]; rfl) (fun n hn => ?_) ((HB2.out.trans (HB3.out.mono HB2.out.size)).trans (Below.mono (B := w3.heap.size) (by first | exact (below_alloc _ _).drew | exact below_alloc _ _) (Nat.le_trans HB2.out.size HB3.out.size)))
    all_goals
      rw [HP.out] at hn
      obtain rfl := HQ2.out n hn
      exact HFin.out _ (by first | exact (below_alloc _ _).drew | exact below_alloc _ _) (heap_alloc_new w3 _)
end Go.Proofs.YtkegignigkhleaaDoor
namespace Go.Proofs.YtkegignigkhleaaDoor
open Go.RowKit
attribute [local go_sem ↓] Go.wp_at_zero Go.wp_at_succ

set_option maxHeartbeats 4000000 in
set_option maxRecDepth 20000 in
theorem pathed_ext (f : Nat) (a b pk : ByteArray) (d : Nat) (p : List Int) (w : World) (ha : a.size ≤ 6000) (h : txt a = some pk) (hu : unpL pk.data.toList = some (p, false)) (hd : d ≤ 300) (hf : d + p.length ≤ 128)
    (hr : ∀ W, Calls Tryd.prog 66 #[.string b, .int .i64 ((d : Int) + (p.length : Int))] W fun e w' => RefPostX (refF (parseF f) b (d + p.length)) W e w') :
    Calls Tryd.prog 51 #[.string a, .string b, .int .i64 (d : Int)] w fun e w' => ParsePost (pathedF (parseF f) a b d) w e w' := by
  have HT := hide (text_any a · ha)
  have HX := hide h
  have HP : Hid (pathedF (parseF f) a b d = extF p (refF (parseF f) b (d + p.length))) := by show _ = _; unfold pathedF; rw [h]; simp only; rw [hu]; simp only; rw [if_neg (by omega)]; simp
  have HU := hide (fun W => pUnpack_some pk W p false hu)
  have hl := unpV_len hu
  have k1 : IntKind.i64.wrap ((d : Int) + (p.length : Int)) = (d : Int) + (p.length : Int) := by rw [IntKind.wrap_i64]; omega
  have i1 : (d : Int) + (p.length : Int) ≤ 128 := by omega
  have HR := hide hr
  have HWF : Hid (∀ n, refF (parseF f) b (d + p.length) = some n → n.WF) := fun n hn => refF_WF (fun t d n h => (parseF_WF f t d n h).1) hn
  clear h hu hf hl hr
  generalize refF (parseF f) b (d + p.length) = o at *
  go_enter Tryd.func51, Tryd.ntmps51
  go_wp2_with fail
  refine (HT.out _).mono ?_
  rintro e w1 ⟨rfl, hb1⟩
  rw [HX.out]
  simp only [Option.getD_some, Option.isSome_some]
  have HB1 := hide hb1
  clear hb1
  go_wp2_with fail
  refine (HU.out _).mono ?_
  rintro e w2 ⟨g, og, rfl, hfr, hg, hb2⟩
  have HB2 := hide (HB1.out.trans (hb2.mono HB1.out.size))
  have HG2 := hide (And.intro hfr (Nat.le_trans HB1.out.size hg))
  clear hb2 hfr hg
  go_wp2_with fail
  refine (HR.out _).mono ?_
  intro e w3 hpp
  obtain ⟨v, gh, hv, rfl, hnx, hb3⟩ := hpp.form
  have HB3 := hide hb3
  have HNX := hide hnx
  have HV := hide hv
  clear hb3 hpp hnx
  have HT0 : Hid (∀ W, Below w3.heap.size w3 W → ∀ n, o = some n → (p ≠ [] ∧ n.isNil = false) → W.heap[w3.heap.size + 1]? = some (.cells #[.slice (some ⟨g, og, none⟩) p.length p.length, v, .string gh] 139 (0, 0)) → NxAt (fun k => w.heap.size ≤ k) W (.ext p n) (.iface 110 (ptr (w3.heap.size + 1))) e0) := fun W hW n hn _ hc =>
    ⟨rfl, w3.heap.size + 1, some ⟨g, og, none⟩, p.length, v, gh, rfl, Nat.le_succ_of_le (Nat.le_trans HB2.out.size HB3.out.size), hc, ⟨(HG2.out.1.ints.keep HB3.out).keep hW, fun a e _ => by injection e with e; subst e; exact HG2.out.2, Nat.le_refl _, ⟨g, og, rfl⟩⟩, NxAt.mono (fun k hk => Nat.le_trans HB2.out.size hk) _ _ _ ((HNX.out n hn).keep hW)⟩
  have HW3 : Hid (Below w.heap.size w w3) := HB2.out.trans (HB3.out.mono HB2.out.size)
  have HE : Hid (∀ n, extF p o = some n → ∃ m, o = some m ∧ n = .ext p m ∧ p ≠ [] ∧ m.isNil = false) := by
    intro n hn
    unfold extF at hn
    split at hn
    · cases hn
    · rename_i m
      split at hn
      · cases hn
      · rename_i hc
        injection hn with hn
        refine ⟨m, rfl, hn.symm, fun e => hc (.inl e), ?_⟩
        cases hm : m.isNil with
        | false => rfl
        | true => exact absurd (.inr (.inl hm)) hc
  have HDone : Hid (∀ (z : Bool) (W : World), z = (extF p o).isSome → Below w3.heap.size w3 W → W.heap[w3.heap.size + 1]? = some (.cells #[.slice (some ⟨g, og, none⟩) p.length p.length, v, .string gh] 139 (0, 0)) → ParsePost (pathedF (parseF f) a b d) w (.returned (.tuple #[.iface 110 (.pointer (some ⟨w3.heap.size + 1, 0, none⟩)), .bool z])) W) := by
    intro z W hz hW hc
    refine ParsePost.of (.iface 110 (.pointer (some ⟨w3.heap.size + 1, 0, none⟩))) (.inr ⟨_, _, rfl⟩) (by rw [HP.out, hz]) (fun n hn => ?_) (HW3.out.trans (hW.mono HW3.out.size))
    rw [HP.out] at hn
    obtain ⟨m, h1, rfl, h2, h3⟩ := HE.out n hn
    exact HT0.out W hW m h1 ⟨h2, h3⟩ hc
  clear HT0
  have HLast : Hid (∀ (o1 : Obj) (cs : Array Value), ((w3.alloc o1).alloc (.cells cs 139)).heap[w3.heap.size + 1]? = some (.cells cs 139 (0, 0))) := fun o1 cs => by
    have h2 := heap_alloc_new (w3.alloc o1) (.cells cs 139)
    rw [World.size_alloc] at h2
    exact h2
  have HBel : Hid (∀ (o1 o2 : Obj), Below w3.heap.size w3 ((w3.alloc o1).alloc o2)) := fun o1 o2 => (below_alloc _ _).alloc (by simp) _
  have HTo : Hid (∀ (cs : Array Value) (o2 : Obj), ((w3.alloc (.cells cs 49)).alloc o2).heap[w3.heap.size]? = some (.cells cs 49 (0, 0))) := fun cs o2 => (Below.heap_alloc _ _ _ (by simp)).trans (heap_alloc_new w3 _)
  cases o with
  | none =>
    simp only [Option.isSome_none]
    rcases hv with rfl | ⟨tt, ub, rfl⟩
    · go_wp2
      go_ret2
      exact HDone.out false _ rfl (HBel.out _ _) (HLast.out _ _)
    · unfold ptr at *
      go_wp2
      go_ret2
      exact HDone.out false _ rfl (HBel.out _ _) (HLast.out _ _)
  | some n =>
    simp only [Option.isSome_some]
    by_cases hp0 : p = []
    · have HZ : Hid ((extF p (some n)).isSome = false) := by show _ = _; unfold extF; simp only; rw [if_pos (.inl hp0)]; rfl
      have j1 : (p.length : Int) ≤ 0 := by rw [hp0]; simp
      clear hp0
      rcases hv with rfl | ⟨tt, ub, rfl⟩
      · go_wp2
        go_ret2
        exact HDone.out false _ HZ.out.symm (HBel.out _ _) (HLast.out _ _)
      · unfold ptr at *
        go_wp2
        go_ret2
        exact HDone.out false _ HZ.out.symm (HBel.out _ _) (HLast.out _ _)
    · have j1 : (0 : Int) < (p.length : Int) := by have := List.length_pos_iff.2 hp0; omega
      have hnx := HNX.out n rfl
      have hwf := HWF.out n rfl
      have HEm : Hid (∀ W, W.heap[w3.heap.size]? = some (.cells #[v, .string gh] 49 (0, 0)) → Calls Tryd.prog 25 #[.pointer (some ⟨w3.heap.size, 0, none⟩)] W fun e w' => e = .returned (.bool (emptyB v gh)) ∧ w' = W) := fun W hW => isEmptyX_any w3.heap.size 0 v gh W HV.out (cell_of_row _ _ 0 _ _ (0, 0) hW) (cell_of_row _ _ 1 _ _ (0, 0) hW)
      cases n with
      | nil =>
        obtain ⟨rfl, rfl⟩ := hnx
        have HZ : Hid ((extF p (some .nil)).isSome = false) := by show _ = _; unfold extF; simp only; rw [if_pos (.inr (.inl rfl))]; rfl
        have heb : emptyB .nilIface e0 = true := rfl
        rw [heb] at HEm
        go_wp2_with fail
        refine (HEm.out _ (HTo.out _ _)).mono ?_
        rintro e w5 ⟨rfl, rfl⟩
        go_wp2
        go_ret2
        exact HDone.out false _ HZ.out.symm (HBel.out _ _) (HLast.out _ _)
      | hash h0 =>
        obtain ⟨rfl, rfl⟩ := hnx
        have h32 : gh.size = 32 := hwf
        have HZ : Hid ((extF p (some (.hash gh))).isSome = true) := by
          show _ = _; unfold extF; simp only
          rw [if_neg (by rintro (h | h | ⟨h, _⟩); { exact hp0 h }; { cases h }; { cases h })]; rfl
        have heb : emptyB .nilIface gh = false := by simp [emptyB, h32]
        rw [heb] at HEm
        go_wp2_with fail
        refine (HEm.out _ (HTo.out _ _)).mono ?_
        rintro e w5 ⟨rfl, rfl⟩
        go_wp2
        go_ret2
        exact HDone.out true _ HZ.out.symm (HBel.out _ _) (HLast.out _ _)
      | leaf q x =>
        have HF := hide (fun W => fits_ext (w3.heap.size + 1) W w3 hnx rfl rfl)
        obtain ⟨rfl, tt, ub, rfl⟩ := hnx.some rfl rfl
        have HZ : Hid ((extF p (some (.leaf q x))).isSome = false) := by
          show _ = _; unfold extF; simp only
          rw [if_pos (.inr (.inr ⟨rfl, rfl⟩))]; rfl
        have heb : emptyB (.iface tt (ptr ub)) e0 = false := rfl
        rw [heb] at HEm
        unfold ptr at *
        go_wp2_with fail
        refine (HEm.out _ (HTo.out _ _)).mono ?_
        rintro e w5 ⟨rfl, rfl⟩
        go_wp2_with fail
        refine (HF.out _).mono ?_
        rintro e w6 ⟨rfl, rfl⟩
        go_wp2
        go_ret2
        exact HDone.out false _ HZ.out.symm (HBel.out _ _) (HLast.out _ _)
      | ext q m =>
        have HF := hide (fun W => fits_ext (w3.heap.size + 1) W w3 hnx rfl rfl)
        obtain ⟨rfl, tt, ub, rfl⟩ := hnx.some rfl rfl
        have HZ : Hid ((extF p (some (.ext q m))).isSome = false) := by
          show _ = _; unfold extF; simp only
          rw [if_pos (.inr (.inr ⟨rfl, rfl⟩))]; rfl
        have heb : emptyB (.iface tt (ptr ub)) e0 = false := rfl
        rw [heb] at HEm
        unfold ptr at *
        go_wp2_with fail
        refine (HEm.out _ (HTo.out _ _)).mono ?_
        rintro e w5 ⟨rfl, rfl⟩
        go_wp2_with fail
        refine (HF.out _).mono ?_
        rintro e w6 ⟨rfl, rfl⟩
        go_wp2
        go_ret2
        exact HDone.out false _ HZ.out.symm (HBel.out _ _) (HLast.out _ _)
      | br c x =>
        have HF := hide (fun W => fits_ext (w3.heap.size + 1) W w3 hnx rfl rfl)
        obtain ⟨rfl, tt, ub, rfl⟩ := hnx.some rfl rfl
        have HZ : Hid ((extF p (some (.br c x))).isSome = true) := by
          show _ = _; unfold extF; simp only
          rw [if_neg (by rintro (h | h | ⟨_, h⟩); { exact hp0 h }; { cases h }; { cases h })]; rfl
        have heb : emptyB (.iface tt (ptr ub)) e0 = false := rfl
        rw [heb] at HEm
        unfold ptr at *
        go_wp2_with fail
        refine (HEm.out _ (HTo.out _ _)).mono ?_
        rintro e w5 ⟨rfl, rfl⟩
        go_wp2_with fail
        refine (HF.out _).mono ?_
        rintro e w6 ⟨rfl, rfl⟩
        go_wp2
        go_ret2
        exact HDone.out true _ HZ.out.symm (HBel.out _ _) (HLast.out _ _)
theorem pathed_any (f : Nat) (ih : ParseOk f) (a b : ByteArray) (d : Nat) (w : World) (ha : a.size ≤ 6000) (hb : b.size ≤ 6000) (hf : b.size < 32 → b.size < f) (hd : d ≤ 300) :
    Calls Tryd.prog 51 #[.string a, .string b, .int .i64 (d : Int)] w fun e w' => ParsePost (pathedF (parseF f) a b d) w e w' := by
  cases hx : txt a with
  | none => exact pathed_notext _ a b d w ha hx
  | some pk =>
    cases hu : unpL pk.data.toList with
    | none => exact pathed_nopath _ a b pk d w ha hx hu hd
    | some q =>
      obtain ⟨p, lf⟩ := q
      by_cases hfar : 128 < d + p.length
      · exact pathed_far _ a b pk d p lf w ha hx hu hd hfar
      · cases lf with
        | true => exact pathed_leaf _ a b pk d p w ha hb hx hu hd (by omega)
        | false =>
          refine pathed_ext f a b pk d p w ha hx hu hd (by omega) (fun W => ?_)
          have := parseRef_any f ih b (d + p.length) W hb hf (by omega)
          rwa [Int.natCast_add] at this
end Go.Proofs.YtkegignigkhleaaDoor
namespace Go.Proofs.YtkegignigkhleaaDoor
open Go.RowKit
attribute [local go_sem ↓] Go.wp_at_zero Go.wp_at_succ

/-- a branch that is read, reference after reference -/
structure Kb (w wr : World) (c : Nat → Nx) (i : Nat) (us : Nat → Value) (hs : Nat → ByteArray) : Prop where
  bel : Below w.heap.size w wr
  blk : wr.heap[w.heap.size]? = some (.cells (brCells us hs e0) 142 (0, 0))
  kids : ∀ j, j < i → NxAt (fun k => w.heap.size < k) wr (c j) (us j) (hs j)
  rest : ∀ j, i ≤ j → us j = .nilIface ∧ hs j = e0
theorem Kb.start (w : World) (c : Nat → Nx) : Kb w (w.alloc (.cells (brCells (fun _ => .nilIface) (fun _ => e0) e0) 142)) c 0 (fun _ => .nilIface) (fun _ => e0) :=
  ⟨below_alloc _ _, heap_alloc_new w _, fun j hj => by omega, fun _ _ => ⟨rfl, rfl⟩⟩
theorem Kb.lt {w wr : World} {c : Nat → Nx} {i : Nat} {us : Nat → Value} {hs : Nat → ByteArray} (h : Kb w wr c i us hs) : w.heap.size < wr.heap.size := (Array.getElem?_eq_some_iff.1 h.blk).1
theorem Kb.keep {w wr wr' : World} {c : Nat → Nx} {i : Nat} {us : Nat → Value} {hs : Nat → ByteArray} (h : Kb w wr c i us hs) (hb : Below wr.heap.size wr wr') : Kb w wr' c i us hs :=
  ⟨h.bel.trans (hb.mono h.bel.size), (hb.block _ h.lt).trans h.blk, fun j hj => (h.kids j hj).keep hb, h.rest⟩
theorem Kb.set {w wr : World} {c : Nat → Nx} {i : Nat} {us : Nat → Value} {hs : Nat → ByteArray} (h : Kb w wr c i us hs) (hi : i < 16) {v : Value} {g : ByteArray} (hn : NxAt (fun k => w.heap.size < k) wr (c i) v g) :
    Kb w ((wr.setCell ⟨w.heap.size, i * 2, none⟩ v).setCell ⟨w.heap.size, i * 2 + 1, none⟩ (.string g)) c (i + 1) (updV us i v) (updV hs i g) := by
  have ho : ∀ k, w.heap.size < k → ((wr.setCell ⟨w.heap.size, i * 2, none⟩ v).setCell ⟨w.heap.size, i * 2 + 1, none⟩ (.string g)).heap[k]? = wr.heap[k]? := fun k hk => by
    rw [Below.heap_setCell _ _ _ _ (fun e => by have e : k = w.heap.size := e; omega), Below.heap_setCell _ _ _ _ (fun e => by have e : k = w.heap.size := e; omega)]
  refine ⟨(h.bel.setCell (p := ⟨w.heap.size, i * 2, none⟩) (Nat.le_refl _) v).setCell (p := ⟨w.heap.size, i * 2 + 1, none⟩) (Nat.le_refl _) _, ?_, fun j hj => ?_, fun j hj => ?_⟩
  · have h1 := heap_setCell_same wr w.heap.size (i * 2) _ 142 v h.blk
    have h2 := heap_setCell_same _ w.heap.size (i * 2 + 1) _ 142 (.string g) h1
    rw [brCells_set us hs e0 i hi v g] at h2
    exact h2
  · unfold updV
    by_cases e : j = i
    · rw [if_pos e, if_pos e, e]
      exact NxAt.keepIn (fun k hk _ => ho k hk) _ _ _ hn
    · rw [if_neg e, if_neg e]
      exact NxAt.keepIn (fun k hk _ => ho k hk) _ _ _ (h.kids j (by omega))
  · unfold updV
    rw [if_neg (by omega), if_neg (by omega)]
    exact h.rest j (by omega)

set_option maxHeartbeats 4000000 in
set_option maxRecDepth 20000 in
theorem branch_far (P : ByteArray → Nat → Option Nx) (g cap : Nat) (ts : List ByteArray) (d : Nat) (w : World) (hd : d ≤ 300) (hf : 128 < d + 1) :
    Calls Tryd.prog 52 #[.slice (some ⟨g, 0, none⟩) 17 cap, .int .i64 (d : Int)] w fun e w' => ParsePost (branchF P ts d) w e w' := by
  have HP : Hid (branchF P ts d = none) := by show _ = _; unfold branchF; rw [if_pos hf]
  have i1 : (128 : Int) < (d : Int) + 1 := by omega
  have k1 : IntKind.i64.wrap ((d : Int) + 1) = (d : Int) + 1 := by rw [IntKind.wrap_i64]; omega
  clear hf
  go_enter Tryd.func52, Tryd.ntmps52
  go_wp2
  go_ret2
  exact ParsePost.of .nilIface (.inl rfl) (by rw [HP.out]; rfl) (fun n hn => by rw [HP.out] at hn; cases hn) (Below.refl _ _)
set_option maxHeartbeats 4000000 in
set_option maxRecDepth 20000 in
theorem branch_any (f : Nat) (ih : ParseOk f) (g cap : Nat) (ts : List ByteArray) (d : Nat) (w : World) (hd : d ≤ 300) (hc : ∀ i, i < 17 → w.cell? ⟨g, i, none⟩ = some (.string (ts.getD i eB))) (hs : ∀ i, i < 17 → (ts.getD i eB).size ≤ 6000 ∧ ((ts.getD i eB).size < 32 → (ts.getD i eB).size < f)) :
    Calls Tryd.prog 52 #[.slice (some ⟨g, 0, none⟩) 17 cap, .int .i64 (d : Int)] w fun e w' => ParsePost (branchF (parseF f) ts d) w e w' := by
  by_cases hf : 128 < d + 1
  · exact branch_far _ g cap ts d w hd hf
  have i1 : (d : Int) + 1 ≤ 128 := by omega
  have k1 : IntKind.i64.wrap ((d : Int) + 1) = (d : Int) + 1 := by rw [IntKind.wrap_i64]; omega
  have hgl : g < w.heap.size := World.block_lt_of_cell? w _ (hc 0 (by omega))
  have HC : Hid (∀ W, Below w.heap.size w W → ∀ i, i < 17 → W.cell? ⟨g, i, none⟩ = some (.string (ts.getD i eB))) := fun W hW i hi => (hW.cell (p := ⟨g, i, none⟩) hgl).trans (hc i hi)
  have HR : Hid (∀ i, i < 17 → ∀ W, Calls Tryd.prog 66 #[.string (ts.getD i eB), .int .i64 ((d : Int) + 1)] W fun e w' => RefPostX (refF (parseF f) (ts.getD i eB) (d + 1)) W e w') := fun i hi W => by
    have := parseRef_any f ih (ts.getD i eB) (d + 1) W (hs i hi).1 (hs i hi).2 (by omega)
    rwa [Int.natCast_add] at this
  have HV : Hid (∀ W, Calls Tryd.prog 65 #[.string (ts.getD 16 eB), .int .i64 (d : Int)] W fun e w' => e = .returned (.tuple #[.string ((txt (ts.getD 16 eB)).getD ⟨#[]⟩), .bool (pval (ts.getD 16 eB) d).isSome]) ∧ Below W.heap.size W w') := fun W => parseValue_any _ d W (hs 16 (by omega)).1 (by omega)
  have HF := hide hf
  clear hf hc hs ih
  have HK0 := hide (Kb.start w (kidsF (parseF f) ts d))
  go_enter Tryd.func52, Tryd.ntmps52
  go_wp2_with fail
  go_loopw [17] (fun iv wr => ∃ (i : Nat) (us : Nat → Value) (hs : Nat → ByteArray), iv = .int .i64 (i : Int) ∧ i ≤ 16 ∧ Kb w wr (kidsF (parseF f) ts d) i us hs ∧ ∀ j, j < i → (refF (parseF f) (ts.getD j eB) (d + 1)).isSome = true) (fun iv _ => 16 - (intOf iv).toNat)
  case atStart => exact ⟨0, _, _, rfl, by omega, HK0.out, fun j hj => by omega⟩
  case round =>
    obtain ⟨i, us, hs, rfl, hi, hk, hall⟩ := hrel
    have HK := hide hk
    have HA := hide hall
    clear hk hall
    by_cases hlt : i < 16
    · have c1 := HC.out wr HK.out.bel i (by omega)
      have j0 : (0 : Int) ≤ (i : Int) := by omega
      have j1 : (i : Int) < 16 := by omega
      have j2 : (i : Int) < 17 := by omega
      have hr1 := HR.out i (by omega)
      go_wp2_with fail
      refine (hr1 _).mono ?_
      intro e w3 hpp
      obtain ⟨v, gh, hv, rfl, hnx, hb3⟩ := hpp.form
      have HB3 := hide (And.intro hnx hb3)
      clear hpp hnx hb3 hr1
      cases ho : refF (parseF f) (ts.getD i eB) (d + 1) with
      | none =>
        have HP : Hid (branchF (parseF f) ts d = none) := by
          show _ = _; unfold branchF
          rw [if_neg HF.out, if_neg]
          rw [List.all_eq_true]
          intro h
          have := h i (List.mem_range.2 hlt)
          rw [ho] at this; cases this
        simp only [Option.isSome_none]
        clear ho
        rcases hv with rfl | ⟨tt, ub, rfl⟩
        · go_wp2
          go_ret2
          exact ParsePost.of .nilIface (.inl rfl) (by rw [HP.out]; rfl) (fun n hn => by rw [HP.out] at hn; cases hn) ((HK.out.bel.trans (HB3.out.2.mono HK.out.bel.size)).alloc (Nat.le_trans HK.out.bel.size HB3.out.2.size) _)
        · unfold ptr at *
          go_wp2
          go_ret2
          exact ParsePost.of .nilIface (.inl rfl) (by rw [HP.out]; rfl) (fun n hn => by rw [HP.out] at hn; cases hn) ((HK.out.bel.trans (HB3.out.2.mono HK.out.bel.size)).alloc (Nat.le_trans HK.out.bel.size HB3.out.2.size) _)
      | some n =>
        have hkn : kidsF (parseF f) ts d i = n := by unfold kidsF; rw [if_pos hlt, ho]; rfl
        have HO := hide ho
        have HNX : Hid (NxAt (fun k => w.heap.size < k) w3 (kidsF (parseF f) ts d i) v gh) := by
          show NxAt _ _ _ _ _
          rw [hkn]
          exact NxAt.mono (fun k hk => Nat.lt_of_lt_of_le HK.out.lt hk) _ _ _ (HB3.out.1 n ho)
        simp only [Option.isSome_some]
        clear ho hkn
        have hK3 := HK.out.keep HB3.out.2
        have hne1 : ¬ w3.heap.size = w.heap.size := by have := hK3.lt; omega
        have hne2 : ¬ w.heap.size = w3.heap.size := fun e => hne1 e.symm
        have HK3 := hide hK3
        have hKa : ∀ o, Kb w (w3.alloc o) (kidsF (parseF f) ts d) i us hs := fun o => hK3.keep (below_alloc _ _)
        have s0 : ∀ o, (w3.alloc o).cell? ⟨w.heap.size, i * 2, none⟩ = some (us i) := fun o => (br_ref (hKa o).blk i hlt).1
        have s1 : ∀ o, (w3.alloc o).cell? ⟨w.heap.size, i * 2 + 1, none⟩ = some (.string (hs i)) := fun o => (br_ref (hKa o).blk i hlt).2
        have z0 : ∀ o, (w3.alloc o).frozen? ⟨w.heap.size, i * 2, none⟩ = false := fun o => frozen_of_row _ _ _ _ _ (hKa o).blk
        have z1 : ∀ o, (w3.alloc o).frozen? ⟨w.heap.size, i * 2 + 1, none⟩ = false := fun o => frozen_of_row _ _ _ _ _ (hKa o).blk
        have HK4 : Hid (∀ o, Kb w (((w3.alloc o).setCell ⟨w.heap.size, i * 2, none⟩ v).setCell ⟨w.heap.size, i * 2 + 1, none⟩ (.string gh)) (kidsF (parseF f) ts d) (i + 1) (updV us i v) (updV hs i gh)) := fun o => (hKa o).set hlt (HNX.out.keep (below_alloc _ _))
        have HA2 : Hid (∀ j, j < i + 1 → (refF (parseF f) (ts.getD j eB) (d + 1)).isSome = true) := fun j hj => by
          by_cases e : j = i
          · rw [e, HO.out]; rfl
          · exact HA.out j (by omega)
        clear hKa hK3
        rcases hv with rfl | ⟨tt, ub, rfl⟩
        · go_wp2_with fail
          go_region
          all_goals go_wp2
          all_goals go_roundw
          case rel => exact ⟨i + 1, _, _, by go_num, by omega, (HK4.out _).keep (Below.refl _ _).drew, HA2.out⟩
          case measure => simp [intOf]; omega
        · unfold ptr at *
          go_wp2_with fail
          go_region
          all_goals go_wp2
          all_goals go_roundw
          case rel => exact ⟨i + 1, _, _, by go_num, by omega, (HK4.out _).keep (Below.refl _ _).drew, HA2.out⟩
          case measure => simp [intOf]; omega
    · obtain rfl : i = 16 := by omega
      have c1 := HC.out wr HK.out.bel 16 (by omega)
      have hf16 : (List.range 16).all (fun i => (refF (parseF f) (ts.getD i eB) (d + 1)).isSome) = true := by
        rw [List.all_eq_true]; intro j hj; exact HA.out j (List.mem_range.1 hj)
      have HBR : Hid (branchF (parseF f) ts d = (match pval (ts.getD 16 eB) d with | none => none | some v => if cntX (kidsF (parseF f) ts d) v ≤ 1 then none else some (.br (kidsF (parseF f) ts d) v))) := by
        show _ = _
        unfold branchF
        rw [if_neg HF.out, if_pos hf16]
        cases pval (ts.getD 16 eB) d <;> rfl
      have HWK : Hid (∀ j, (kidsF (parseF f) ts d j).WF) := fun j => by
        unfold kidsF
        split
        · cases hr : refF (parseF f) (ts.getD j eB) (d + 1) with
          | none => trivial
          | some m => exact refF_WF (fun t d n h => (parseF_WF f t d n h).1) hr
        · trivial
      have HK16 : Hid (∀ j, 16 ≤ j → kidsF (parseF f) ts d j = .nil) := fun j hj => by unfold kidsF; rw [if_neg (by omega)]
      clear hf16 hlt
      generalize kidsF (parseF f) ts d = c at *
      have hpv : ∀ v, pval (ts.getD 16 eB) d = some v → (txt (ts.getD 16 eB)).getD ⟨#[]⟩ = v := fun v hp => by
        unfold pval at hp
        split at hp
        · cases hp
        · rename_i v' e
          split at hp
          · injection hp with hp; rw [e, hp]; rfl
          · cases hp
      have HPV := hide hpv
      clear hpv
      generalize (txt (ts.getD 16 eB)).getD ⟨#[]⟩ = val at *
      generalize pval (ts.getD 16 eB) d = o at *
      have HFor : Hid (∀ W y, Kb w W c 16 us hs → Below w.heap.size w (W.setCell ⟨w.heap.size, 32, none⟩ (.string y)) ∧ (W.setCell ⟨w.heap.size, 32, none⟩ (.string y)).heap[w.heap.size]? = some (.cells (brCells us hs y) 142 (0, 0)) ∧ ∀ j, j < 16 → NxAt (fun k => w.heap.size < k) (W.setCell ⟨w.heap.size, 32, none⟩ (.string y)) (c j) (us j) (hs j)) := fun W y hW =>
        ⟨hW.bel.setCell (p := ⟨w.heap.size, 32, none⟩) (Nat.le_refl _) _, by
          have h1 := heap_setCell_same W w.heap.size 32 _ 142 (.string y) hW.blk
          rw [brCells_val] at h1
          exact h1, fun j hj => NxAt.keepIn (fun k hk _ => Below.heap_setCell _ _ _ _ (fun e => by have e : k = w.heap.size := e; omega)) _ _ _ (hW.kids j hj)⟩
      cases o with
      | none =>
        simp only [Option.isSome_none] at HV
        go_wp2_with fail
        refine (HV.out _).mono ?_
        rintro e w4 ⟨rfl, hb4⟩
        have hK4 := HK.out.keep hb4
        have HK4 := hide hK4
        have s0 : w4.cell? ⟨w.heap.size, 32, none⟩ = some (.string e0) := br_val hK4.blk
        have z0 := frozen_of_row _ w.heap.size 32 _ _ hK4.blk
        clear hK4 hb4
        go_wp2
        go_ret2
        exact ParsePost.of (.iface 112 (.pointer (some ⟨w.heap.size, 0, none⟩))) (.inr ⟨_, _, rfl⟩) (by rw [HBR.out]; rfl) (fun n hn => by rw [HBR.out] at hn; cases hn) (HFor.out w4 val HK4.out).1
      | some v =>
        obtain rfl := HPV.out v rfl
        simp only [Option.isSome_some] at HV
        have HZ : Hid ((branchF (parseF f) ts d).isSome = decide (1 < cntX c val)) := by
          show _ = _
          rw [HBR.out]
          simp only
          by_cases hc : cntX c val ≤ 1
          · rw [if_pos hc, decide_eq_false (by omega)]; rfl
          · rw [if_neg hc, decide_eq_true (by omega)]; rfl
        have HZ2 : Hid (∀ n, branchF (parseF f) ts d = some n → n = .br c val) := by
          intro n hn
          rw [HBR.out] at hn
          simp only at hn
          split at hn
          · cases hn
          · injection hn with hn; exact hn.symm
        have HCO : Hid (∀ W, W.heap[w.heap.size]? = some (.cells (brCells us hs val) 142 (0, 0)) → (∀ j, j < 16 → NxAt (fun k => w.heap.size < k) W (c j) (us j) (hs j)) → Calls Tryd.prog 67 #[.func (.func 73) #[] #[.pointer (some ⟨W.heap.size, 0, none⟩)]] (W.alloc (.cells #[.pointer (some ⟨w.heap.size, 0, none⟩)] 112)) fun e w' => ∃ ao cp, e = .returned (.slice ao (cntX c val) cp) ∧ Below W.heap.size W w') := fun W hW hkid => by
          have hus : ∀ i, i < 16 → (us i = .nilIface ∧ hs i = e0) ∨ Live us hs i := fun i hi => ((hkid i hi).live (HWK.out i)).elim (fun h => .inl h.2) (fun h => .inr h.2)
          have hlt := (Array.getElem?_eq_some_iff.1 hW).1
          refine (collect_parts W.heap.size w.heap.size us hs val _ hus (heap_alloc_new W _) ((Below.heap_alloc _ _ _ hlt).trans hW)).mono ?_
          rintro e w' ⟨v, xs, rfl, hrow, hpts, hb⟩
          have hcnt := hpts.tell (fun j => !(c j).isNil) (fun j hj => by
            rcases (hkid j hj).live (HWK.out j) with ⟨h1, h2, h3⟩ | ⟨h1, h2⟩
            · simp only [h1, Bool.not_true, Bool.false_eq_true, false_iff]
              rintro (⟨t, b, h4⟩ | ⟨_, h4⟩)
              · rw [h2] at h4; cases h4
              · exact h4 h3
            · simp only [h1, Bool.not_false, true_iff]; exact h2) (Nat.le_refl _)
          obtain ⟨ao, cp, rfl⟩ : ∃ ao cp, v = .slice ao xs.length cp := by
            rcases hrow.2 with ⟨rfl, h0⟩ | ⟨g, c, cur, rfl, _⟩
            · exact ⟨none, 0, by rw [h0]⟩
            · exact ⟨_, c, rfl⟩
          refine ⟨ao, cp, ?_, (below_alloc W _).trans (hb.mono (by simp))⟩
          have hx : xs.length = cntX c val := hcnt
          rw [hx]
        go_wp2_with fail
        refine (HV.out _).mono ?_
        rintro e w4 ⟨rfl, hb4⟩
        have hK4 := HK.out.keep hb4
        have HK4 := hide hK4
        have s0 : w4.cell? ⟨w.heap.size, 32, none⟩ = some (.string e0) := br_val hK4.blk
        have z0 := frozen_of_row _ w.heap.size 32 _ _ hK4.blk
        have HF4 := hide (HFor.out w4 val hK4)
        clear hK4 hb4
        go_wp2_with fail
        generalize World.setCell w4 _ _ = W5 at *
        have hmade := brParts_made w.heap.size W5
        unfold ptr at hmade
        refine hmade.mono ?_
        rintro e w6 ⟨rfl, rfl⟩
        clear hmade
        go_wp2_with fail
        refine (HCO.out W5 HF4.out.2.1 HF4.out.2.2).mono ?_
        rintro e w7 ⟨ao, cp, rfl, hb7⟩
        have HB7 := hide hb7
        clear hb7
        have HN7 : Hid (NxAt (fun k => w.heap.size ≤ k) w7 (.br c val) (.iface 112 (ptr w.heap.size)) e0) :=
          ⟨rfl, w.heap.size, us, hs, rfl, Nat.le_refl _, (HB7.out.block _ (Array.getElem?_eq_some_iff.1 HF4.out.2.1).1).trans HF4.out.2.1, fun j hj => NxAt.mono (fun k hk => Nat.le_of_lt hk) _ _ _ ((HF4.out.2.2 j hj).keep HB7.out)⟩
        have HD : Hid (decide ((1 : Int) < (cntX c val : Int)) = decide (1 < cntX c val)) := by
          show _ = _
          rw [Bool.eq_iff_iff]; simp only [decide_eq_true_eq]; omega
        generalize cntX c val = cn at *
        go_wp2
        go_ret2
        refine ParsePost.of (.iface 112 (.pointer (some ⟨w.heap.size, 0, none⟩))) (.inr ⟨_, _, rfl⟩) (by rw [HZ.out, ← HD.out]; rfl) (fun n hn => ?_) (HF4.out.1.trans (HB7.out.mono HF4.out.1.size))
        rw [HZ2.out n hn]
        exact HN7.out
end Go.Proofs.YtkegignigkhleaaDoor
namespace Go.Proofs.YtkegignigkhleaaDoor
open Go.RowKit
attribute [local go_sem ↓] Go.wp_at_zero Go.wp_at_succ

set_option maxHeartbeats 4000000 in
set_option maxRecDepth 20000 in
theorem parse_step (f : Nat) (ih : ParseOk f) (t : ByteArray) (d : Nat) (w : World) (ht : t.size ≤ 6000) (hd : d ≤ 300) (hch : ∀ ts u, itemsOf t = some ts → u ∈ ts → u.size < 32 → u.size < f) :
    Calls Tryd.prog 38 #[.string t, .int .i64 (d : Int)] w fun e w' => ParsePost (parseF (f + 1) t d) w e w' := by
  have HI := hide (items_any t · ht)
  cases hx : itemsOf t with
  | none =>
    have HP : Hid (parseF (f + 1) t d = none) := by show _ = _; rw [parseF, hx]
    have HX := hide hx
    clear hx hch
    go_enter Tryd.func38, Tryd.ntmps38
    go_wp2_with fail
    refine (HI.out _).mono ?_
    intro e w1 hip
    unfold ItemsPost at hip
    rw [HX.out] at hip
    obtain ⟨rfl, hb1⟩ := hip
    go_wp2
    go_ret2
    exact ParsePost.of .nilIface (.inl rfl) (by rw [HP.out]; rfl) (fun n hn => by rw [HP.out] at hn; cases hn) hb1
  | some ts =>
    have HX := hide hx
    have hlt : ∀ i, i < ts.length → (ts.getD i eB).size ≤ 6000 ∧ ((ts.getD i eB).size < 32 → (ts.getD i eB).size < f) := fun i hi => by
      have hm := getD_mem (l := ts) hi
      exact ⟨Nat.le_trans (Nat.le_of_lt (itemsOf_lt hx hm)) ht, hch ts _ hx hm⟩
    have hpe : parseF (f + 1) t d = if ts.length = 2 then pathedF (parseF f) (ts.getD 0 eB) (ts.getD 1 eB) d else if ts.length = 17 then branchF (parseF f) ts d else none := by rw [parseF, hx]
    have hlen : ts.length ≤ 6000 := by
      have h1 := itemsOf_sizes hx
      have hge : ∀ l : List ByteArray, (∀ u ∈ l, 0 < u.size) → l.length ≤ (l.map (·.size)).sum := by
        intro l
        induction l with
        | nil => intro _; simp
        | cons a r ih =>
          intro hl
          have h1 := hl a (List.mem_cons_self ..)
          have h2 := ih (fun u hu => hl u (List.mem_cons_of_mem _ hu))
          simp only [List.length_cons, List.map_cons, List.sum_cons]; omega
      have := hge ts h1.2
      omega
    by_cases h2 : ts.length = 2
    · rw [if_pos h2] at hpe
      have HP := hide hpe
      have HS := hide (fun W => pathed_any f ih (ts.getD 0 eB) (ts.getD 1 eB) d W (hlt 0 (by omega)).1 (hlt 1 (by omega)).1 (hlt 1 (by omega)).2 hd)
      have H2 := hide h2
      clear hx hch hpe hlt h2 ih
      go_enter Tryd.func38, Tryd.ntmps38
      go_wp2_with fail
      refine (HI.out _).mono ?_
      intro e w1 hip
      unfold ItemsPost at hip
      rw [HX.out] at hip
      obtain ⟨v, rfl, hown, hb1⟩ := hip
      have hcell : ∃ g cp, v = .slice (some ⟨g, 0, none⟩) 2 cp ∧ w1.cell? ⟨g, 0, none⟩ = some (.string (ts.getD 0 eB)) ∧ w1.cell? ⟨g, 1, none⟩ = some (.string (ts.getD 1 eB)) := by
        have h2 := H2.out
        rcases hown.2 with ⟨_, h0⟩ | ⟨g, cp, cur, rfl, _⟩
        · omega
        · have hc : ∀ j, j < ts.length → w1.cell? ⟨g, j, none⟩ = some (.string (ts.getD j eB)) := fun j hj => by
            have := hown.cells (g := g) rfl j (.string (ts.getD j eB)) (by simp [List.getD_eq_getElem?_getD, hj])
            rw [addr_add, Nat.zero_add] at this
            exact this
          exact ⟨g, cp, by rw [h2], hc 0 (by omega), hc 1 (by omega)⟩
      obtain ⟨g, cp, rfl, c0, c1⟩ := hcell
      have HB1 := hide hb1
      clear hown hb1
      generalize ts.getD 0 eB = t0 at *
      generalize ts.getD 1 eB = t1 at *
      have hgl := World.block_lt_of_cell? w1 _ c0
      have HCC : Hid (∀ W, Below w1.drew.heap.size w1.drew W → W.cell? ⟨g, 0, none⟩ = some (.string t0) ∧ W.cell? ⟨g, 1, none⟩ = some (.string t1)) := fun W hW => ⟨(hW.cell (p := ⟨g, 0, none⟩) hgl).trans c0, (hW.cell (p := ⟨g, 1, none⟩) hgl).trans c1⟩
      clear hgl
      go_wp2_with fail
      go_region_held3 (fun W => W.cell? ⟨g, 0, none⟩ = some (.string t0) ∧ W.cell? ⟨g, 1, none⟩ = some (.string t1)) (first | go_keep | (simp [*])) ((go_at_call 51; refine (HS.out _).mono ?_; intro e w2 hpp; obtain ⟨v, hv, rfl, hnx, hb2⟩ := hpp.form; obtain ⟨d0, d1⟩ := HCC.out w2 hb2; have HX2 := hide (And.intro hv (And.intro hnx hb2)); clear hpp hv hnx hb2))
      all_goals go_wp2
      all_goals go_ret2
      all_goals exact ParsePost.of v HX2.out.1 (by rw [HP.out]; rfl) (fun n hn => NxAt.mono (fun k hk => Nat.le_trans HB1.out.size hk) _ _ _ (HX2.out.2.1 n (by rw [← HP.out]; exact hn))) (HB1.out.trans (((Below.refl _ _).drew.trans HX2.out.2.2).mono HB1.out.size))
    · rw [if_neg h2] at hpe
      by_cases h17 : ts.length = 17
      · rw [if_pos h17] at hpe
        have HP := hide hpe
        have HS : Hid (∀ W g cp, (∀ i, i < 17 → W.cell? ⟨g, i, none⟩ = some (.string (ts.getD i eB))) → Calls Tryd.prog 52 #[.slice (some ⟨g, 0, none⟩) 17 cp, .int .i64 (d : Int)] W fun e w' => ParsePost (branchF (parseF f) ts d) W e w') := fun W g cp hc => branch_any f ih g cp ts d W hd hc (fun i hi => hlt i (by omega))
        have H17 := hide h17
        clear hx hch hpe hlt h2 h17 ih
        go_enter Tryd.func38, Tryd.ntmps38
        go_wp2_with fail
        refine (HI.out _).mono ?_
        intro e w1 hip
        unfold ItemsPost at hip
        rw [HX.out] at hip
        obtain ⟨v, rfl, hown, hb1⟩ := hip
        have hcell : ∃ g cp, v = .slice (some ⟨g, 0, none⟩) 17 cp ∧ ∀ i, i < 17 → w1.cell? ⟨g, i, none⟩ = some (.string (ts.getD i eB)) := by
          have h2 := H17.out
          rcases hown.2 with ⟨_, h0⟩ | ⟨g, cp, cur, rfl, _⟩
          · omega
          · refine ⟨g, cp, by rw [h2], fun j hj => ?_⟩
            have := hown.cells (g := g) rfl j (.string (ts.getD j eB)) (by simp [List.getD_eq_getElem?_getD, show j < ts.length by omega])
            rw [addr_add, Nat.zero_add] at this
            exact this
        obtain ⟨g, cp, rfl, hc⟩ := hcell
        have HB1 := hide hb1
        have HC := hide hc
        clear hown hb1 hc
        go_wp2_with fail
        refine (HS.out _ g cp HC.out).mono ?_
        intro e w2 hpp
        obtain ⟨v, hv, rfl, hnx, hb2⟩ := hpp.form
        have HX2 := hide (And.intro hv (And.intro hnx hb2))
        clear hpp hv hnx hb2
        go_wp2
        go_ret2
        exact ParsePost.of v HX2.out.1 (by rw [HP.out]; rfl) (fun n hn => NxAt.mono (fun k hk => Nat.le_trans HB1.out.size hk) _ _ _ (HX2.out.2.1 n (by rw [← HP.out]; exact hn))) (HB1.out.trans (HX2.out.2.2.mono HB1.out.size))
      · rw [if_neg h17] at hpe
        have HP := hide hpe
        have i2 : ((ts.length : Int) == 2) = false := beq_false_of_ne (by omega)
        have i3 : ((ts.length : Int) == 17) = false := beq_false_of_ne (by omega)
        clear hx hch hpe hlt h2 h17 ih
        go_enter Tryd.func38, Tryd.ntmps38
        go_wp2_with fail
        refine (HI.out _).mono ?_
        intro e w1 hip
        unfold ItemsPost at hip
        rw [HX.out] at hip
        obtain ⟨v, rfl, hown, hb1⟩ := hip
        obtain ⟨ao, cp, rfl⟩ : ∃ ao cp, v = .slice ao ts.length cp := by
          rcases hown.2 with ⟨rfl, h0⟩ | ⟨g, c, cur, rfl, _⟩
          · exact ⟨none, 0, by rw [h0]⟩
          · exact ⟨_, c, rfl⟩
        clear hown
        go_wp2
        go_ret2
        exact ParsePost.of .nilIface (.inl rfl) (by rw [HP.out]; rfl) (fun n hn => by rw [HP.out] at hn; cases hn) hb1
theorem parse_ok : ∀ f, ParseOk f
  | 0 => fun t d w h _ _ => by omega
  | f + 1 => fun t d w h h32 hd => parse_step f (parse_ok f) t d w (by omega) hd (fun ts u hts hu _ => by have := itemsOf_lt hts hu; omega)
theorem parse_any (t : ByteArray) (d : Nat) (w : World) (ht : t.size ≤ 6000) (hd : d ≤ 300) : Calls Tryd.prog 38 #[.string t, .int .i64 (d : Int)] w fun e w' => ParsePost (parseF 33 t d) w e w' :=
  parse_step 32 (parse_ok 32) t d w ht hd (fun _ _ _ _ h => h)
end Go.Proofs.YtkegignigkhleaaDoor
