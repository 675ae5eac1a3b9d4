/-
  OUR OWN: EaI NoE OrA.
-/
import Derived.Test.YtgepjjebjhidiaaGreatDoorG32
import Derived.Test.YtgepjjebjhidiaaGreatDoorG15
namespace Go.Proofs.YtgepjjebjhidiaaGreatDoor
open Go.RowKit Go.Shelf
attribute [local go_sem] Oper.semAt_some

theorem Pays.turn {B B' : Nat} {V A A' : World} (h : Pays B V A) (ht : Turned B' A A') (hB : V.heap.size ≤ B') : Pays B V A' := fun k o hk ho hc => ht.same k o (h k o hk ho hc) (.inl (Nat.lt_of_lt_of_le (Array.getElem?_eq_some_iff.1 ho).1 hB))
set_option maxRecDepth 100000 in
set_option maxHeartbeats 4000000 in
theorem pairs_step (Hk : Nd → ByteArray → Prop) (ok : Nat → Prop) (n : Nd) (hsub : ∀ p' m, PS.sub p' m ∈ n.partsL → PairsOk Hk ok m) : PairsOk Hk ok n := by
  intro p q bA bP bF bS W0 hwf hkeys hql hpl hat m l J X W hl hkp hJ hX hY hJ0
  obtain ⟨⟨u, g, ab, dp, hA, hn, hg⟩, ⟨ao, ca, hP⟩, ⟨gq, oq, cb, hF⟩, ⟨M, hS⟩⟩ := hat.keep hkp
  clear hat hkp
  refine callsIn_wide.2 ((callsIn_wide (n := 9)).1 ?_)
  have c0 : W.cell? ⟨bA, 0, none⟩ = some u := cell_of_row W _ 0 _ _ (0, 0) hA
  have c1 : W.cell? ⟨bA, 1, none⟩ = some (.string g) := cell_of_row W _ 1 _ _ (0, 0) hA
  have c2 : W.cell? ⟨bA, 2, none⟩ = some ab := cell_of_row W _ 2 _ _ (0, 0) hA
  have c3 : W.cell? ⟨bA, 3, none⟩ = some (.int .i64 dp) := cell_of_row W _ 3 _ _ (0, 0) hA
  have hb1 := below_alloc W (.cells #[.func (.yield l) #[] #[]] 127)
  have hA1 := (hb1.block _ (Array.getElem?_eq_some_iff.1 hA).1).trans hA
  have d0 := cell_of_row _ _ 0 _ _ (0, 0) hA1
  have d1 := cell_of_row _ _ 1 _ _ (0, 0) hA1
  have HJb : Hid (∀ W', Below W.heap.size W W' → J [] W') := fun W' hW => hJ (l + 1) _ _ _ (by omega) hJ0 (Turned.of_below hW)
  by_cases hnil : n = .nil
  · subst hnil
    obtain rfl : u = .nilIface := hn
    obtain rfl := hg rfl
    have ht : tellL q (Nd.nil.flat p) = [] := rfl
    rw [ht]
    refine callsIn_of_wp_marks Tryz.func66 rfl trivial ?_ rfl
    simp only [Tryz.ntmps66, List.size_toArray, List.length_cons, List.length_nil, Nat.reduceAdd, Nat.reduceSub, Array.replicate_succ, Array.replicate_zero, List.push_toArray, List.append_toArray, List.nil_append, List.cons_append]
    gi_wp2_with fail
    refine ⟨trivial, CallsIn.mono (isEmpty_in_yes Fence.wide _ trivial rfl bA 0 _ d0 d1) ?_⟩
    rintro e w2 ⟨rfl, rfl⟩
    gi_wp2_with fail
    refine ⟨trivial, ?_⟩
    gi_wp2
    exact ⟨_, results_none rfl _ _ _, ⟨_, rfl⟩, .inl ⟨[], rfl, HJb.out _ hb1⟩⟩
  · obtain ⟨t, b, fid, gf, tt, rfl, hm, efid, egf, hMade, hTells⟩ := node_parts Hk ok n W u hwf hn hnil
    have HMay := hide (fun W' (hW : Below W.heap.size W W') => mayReach_any ao ca gq oq cb p q W' (hP.nums.keep hW (Nat.le_refl _)) (hF.nums.keep hW (Nat.le_refl _)) hpl hql hF.cap)
    have HCell : Hid (∀ W', Below W.heap.size W W' → W'.cell? ⟨bP, 0, none⟩ = some (.slice ao p.length ca) ∧ W'.cell? ⟨bF, 0, none⟩ = some (.slice (some ⟨gq, oq, none⟩) q.length cb) ∧ W'.cell? ⟨bS, 0, none⟩ = some (.map (some M)) ∧ W'.cell? ⟨bA, 0, none⟩ = some (.iface t (ptr b)) ∧ W'.cell? ⟨bA, 1, none⟩ = some (.string g) ∧ W'.cell? ⟨bA, 2, none⟩ = some ab ∧ W'.cell? ⟨bA, 3, none⟩ = some (.int .i64 dp)) := fun W' hW => by
      have hA' := (hW.block _ (Array.getElem?_eq_some_iff.1 hA).1).trans hA
      exact ⟨(hP.keep (KpP.of_below hW)).cell, (hF.keep (KpP.of_below hW)).cell, cell_of_row W' _ 0 _ _ (0, 0) ((hW.block _ (Array.getElem?_eq_some_iff.1 hS).1).trans hS), cell_of_row W' _ 0 _ _ (0, 0) hA', cell_of_row W' _ 1 _ _ (0, 0) hA', cell_of_row W' _ 2 _ _ (0, 0) hA', cell_of_row W' _ 3 _ _ (0, 0) hA'⟩
    obtain ⟨cP, cF, cS, _, _, c2, c3⟩ := HCell.out _ hb1
    refine callsIn_of_wp_marks Tryz.func66 rfl trivial ?_ rfl
    simp only [Tryz.ntmps66, List.size_toArray, List.length_cons, List.length_nil, Nat.reduceAdd, Nat.reduceSub, Array.replicate_succ, Array.replicate_zero, List.push_toArray, List.append_toArray, List.nil_append, List.cons_append]
    gi_wp2_with fail
    refine ⟨trivial, CallsIn.mono (isEmpty_in_no Fence.wide _ trivial rfl bA 0 t b _ d0) ?_⟩
    rintro e w2 ⟨rfl, rfl⟩
    gi_wp2_with fail
    refine ⟨trivial, (callsIn_wide.2 (HMay.out _ hb1)).mono ?_⟩
    rintro e w2 ⟨rfl, hb2⟩
    have hb3 := hb1.trans (hb2.mono hb1.size)
    have HB3 := hide hb3
    obtain ⟨cP, cF, cS, c0, c1, c2, c3⟩ := HCell.out _ hb3
    have HY2 : Hid (w2.heap[W.heap.size]? = some (.cells #[.func (.yield l) #[] #[]] 127 (0, 0))) := (hb2.block _ (by simp)).trans (heap_alloc_new W _)
    have HYl : Hid (W.heap.size < w2.heap.size) := Nat.lt_of_lt_of_le (by simp) hb2.size
    have cY : w2.cell? ⟨W.heap.size, 0, none⟩ = some (.func (.yield l) #[] #[]) := cell_of_row w2 _ 0 _ _ (0, 0) ((hb2.block _ (by simp)).trans (heap_alloc_new W _))
    clear hb2 hb3
    by_cases hmr : 0 ≤ cmpL p (q.take p.length)
    · rw [decide_eq_true hmr]
      gi_wp2_with fail
      refine ⟨trivial, (callsIn_wide.2 (read_any _ t b g ab dp _)).mono ?_⟩
      rintro e w3 ⟨rfl, hb4⟩
      gi_wp2_with fail
      refine ⟨trivial, (callsIn_wide.2 (hMade _)).mono ?_⟩
      rintro e w4 ⟨rfl, rfl⟩
      obtain ⟨N, hN⟩ : ∃ N, N = w3.heap.size := ⟨_, rfl⟩
      obtain ⟨W5, hW5⟩ : ∃ W5, W5 = (w3.alloc (.cells #[.iface t (ptr b)] 55)).alloc (.cells #[ptr b] tt) := ⟨_, rfl⟩
      have hb35 : Below w3.heap.size w3 W5 := by rw [hW5]; exact below_alloc2 _ _ _
      have hb5 : Below W.heap.size W W5 := (HB3.out.trans (hb4.mono HB3.out.size)).trans (hb35.mono (Nat.le_trans HB3.out.size hb4.size))
      have n5 : W5.heap[N]? = some (.cells #[.iface t (ptr b)] 55 (0, 0)) := by
        rw [hW5, hN, Below.heap_alloc _ _ _ (by simp)]
        exact heap_alloc_new w3 _
      have p5 : W5.heap[N + 1]? = some (.cells #[ptr b] tt (0, 0)) := by
        have h := heap_alloc_new (w3.alloc (.cells #[.iface t (ptr b)] 55)) (.cells #[ptr b] tt)
        rw [World.size_alloc] at h
        rw [hW5, hN]
        exact h
      have y5 : W5.heap[W.heap.size]? = some (.cells #[.func (.yield l) #[] #[]] 127 (0, 0)) := by
        rw [hb35.block _ (Nat.lt_of_lt_of_le HYl.out hb4.size), hb4.block _ HYl.out]
        exact HY2.out
      simp only [World.size_alloc, ← hW5, ← hN]
      clear hW5 hb35 hb4 hN
      gi_wp2_with fail
      have hl5 : l < W5.heap.size := Nat.lt_of_lt_of_le hl hb5.size
      have hNd5 : NdAt Hk ok W5 n (.iface t (ptr b)) := hn.keep hb5
      have HT := hide (hTells W5 (N + 1) p5 hNd5)
      have HK5 : Hid (PathBox W5 bP ao ca p ∧ PathBox W5 bF (some ⟨gq, oq, none⟩) cb q ∧ W5.heap[bS]? = some (.cells #[.map (some M)] 53 (0, 0))) := ⟨hP.keep (KpP.of_below hb5), hF.keep (KpP.of_below hb5), (KpP.of_below hb5).same _ _ _ _ hS (by decide) (by decide)⟩
      have HJ5 := hide (HJb.out W5 hb5)
      refine rangeS (α := PS × Pt) (w := W5) rfl (by omega) (gf := gf) (lb := #[.pointer (some ⟨N + 1, 0, none⟩)]) rfl trivial egf (encs := encPart) (fun _ => rfl) (Fx := PtAt Hk ok) (Kp := KpP) (Done := fun xs => xs.map Prod.fst = n.partsL) (fun pre y => (pre ++ [y]).map Prod.fst <+: n.partsL)
        (fun pre A => J (tellL q ((pre.map Prod.fst).flatMap (PS.flat p))) A ∧ KpP W5 A) (fun c _ A => c = .ret ∧ ∃ xs, X xs A)
        (fun pre A A' h ht => ⟨hJ W5.heap.size _ _ _ hl5 h.1 ht, h.2.trans (KpP.of_turned ht)⟩) (fun c pre A A' h ht => ⟨h.1, h.2.imp fun xs hx => hX W5.heap.size _ _ _ hl5 hx ht⟩) (fun x A A' h ht => h.keep (KpP.of_turned ht)) (fun A A2 A3 A4 h1 h2 h3 => KpP.turn A A2 A3 A4 h1 h2 h3)
        (fun l3 J3 X3 W3 hl3 hT3 hJ3 hX3 hY3 hJ30 => HT.out 8 l3 J3 X3 W3 hl3 (KpP.of_turned hT3) hJ3 hX3 (fun m' pre x W1 h1 h2 h3 => any_round (hY3 pre x W1 h1 h2 h3)) hJ30)
        ⟨HJ5.out, KpP.refl _⟩
        (fun y a' V => ∃ Bx : Nat, V.heap[Bx]? = some (.cells #[.slice y.2.ao y.2.len y.2.cap, .string y.2.val, y.2.node, .string y.2.hash] 110 (0, 0)) ∧ a' = { tmps := #[.func (.yield l) #[] #[], .pointer (some ⟨bA, 0, none⟩), .pointer (some ⟨bP, 0, none⟩), .pointer (some ⟨bF, 0, none⟩), .pointer (some ⟨bS, 0, none⟩), .pointer (some ⟨W.heap.size, 0, none⟩), .pointer (some ⟨N, 0, none⟩), .int .i64 0, .pointer (some ⟨Bx, 0, none⟩), undef, undef, undef, .pointer (some ⟨bA, 0, none⟩), .bool false, .bool false, .slice ao p.length ca, .slice (some ⟨gq, oq, none⟩) q.length cb, .bool true, .bool false, .bool false, .tuple #[.iface t (ptr b), .int .i64 0], .map (some M), .agg #[.iface t (ptr b), .string g, ab, .int .i64 dp], .tuple #[.iface t (ptr b), .int .i64 0], .iface t (ptr b), .int .i64 0, .int .i64 0, .bool false, undef, undef, undef, undef, .iface t (ptr b), .func (.func gf) #[] #[.pointer (some ⟨N + 1, 0, none⟩)], .agg #[.slice y.2.ao y.2.len y.2.cap, .string y.2.val, y.2.node, .string y.2.hash], undef, undef, undef, undef, undef, undef, undef, undef, undef, undef, undef, undef, undef, undef, undef, undef, undef, undef], defers := [] })
        ?assign (fun y a' A A' ⟨Bx, k1, k2⟩ ht => ⟨Bx, ht.same _ _ k1 (.inr rfl), k2⟩) ?body ?done ?stop
      case assign =>
        intro l2 pre y V K hi hx hK
        obtain ⟨s, xa, xl, xc, xv, xn, xh, hxn⟩ := y
        simp only [encPart, Pt.enc]
        rcases hxn with rfl | ⟨t2, b2, rfl⟩
        all_goals
          gi_wp2
          exact hK _ _ ⟨V.heap.size, heap_alloc_new V _, rfl⟩ ⟨hJ W5.heap.size _ _ _ hl5 hi.1 (Turned.of_below (below_alloc V _)), hi.2.trans (KpP.of_below (below_alloc V _))⟩ (hx.keep (KpP.of_below (below_alloc V _))) (pays_alloc _ V _) (Turned.of_below (below_alloc V _))
      case body =>
        rintro l2 pre y a' V ⟨Bx, hbx, rfl⟩ ⟨hi1, hi2⟩ hx hlt hl2 ⟨r2, hr2⟩
        obtain ⟨s, xa, xl, xc, xv, xn, xh, hxn⟩ := y
        obtain ⟨⟨hxl, hxN, hx0, hxc⟩, hxk⟩ := hx
        dsimp only at hxl hxN hx0 hxc hxk hbx ⊢
        subst hxl
        have hmem : s ∈ n.partsL := hlt.subset (by simp)
        have hlen := part_len (p := p) hwf hkeys hmem
        rw [List.length_append] at hlen
        have HP2 := hide (HK5.out.1.keep hi2)
        have HF2 := hide (HK5.out.2.1.keep hi2)
        have HS2 := hide (hi2.same _ _ _ _ HK5.out.2.2 (by decide) (by decide))
        have HN2 := hide (hi2.same _ _ _ _ n5 (by decide) (by decide))
        have HY5 := hide (hi2.same _ _ _ _ y5 (by decide) (by decide))
        have HBx := hide hbx
        have hr2l := (Array.getElem?_eq_some_iff.1 hr2).1
        have HC2 : Hid (∀ V', Below V.heap.size V V' → V'.cell? ⟨bP, 0, none⟩ = some (.slice ao p.length ca) ∧ V'.cell? ⟨bF, 0, none⟩ = some (.slice (some ⟨gq, oq, none⟩) q.length cb) ∧ V'.cell? ⟨bS, 0, none⟩ = some (.map (some M)) ∧ V'.cell? ⟨N, 0, none⟩ = some (.iface t (ptr b)) ∧ V'.cell? ⟨Bx, 0, none⟩ = some (.slice xa s.path.length xc) ∧ V'.cell? ⟨Bx, 1, none⟩ = some (.string xv) ∧ V'.cell? ⟨Bx, 2, none⟩ = some xn ∧ V'.cell? ⟨Bx, 3, none⟩ = some (.string xh)) := fun V' hV => by
          have hB := (hV.block _ (Array.getElem?_eq_some_iff.1 HBx.out).1).trans HBx.out
          exact ⟨(HP2.out.keep (KpP.of_below hV)).cell, (HF2.out.keep (KpP.of_below hV)).cell, cell_of_row V' _ 0 _ _ (0, 0) ((hV.block _ (Array.getElem?_eq_some_iff.1 HS2.out).1).trans HS2.out), cell_of_row V' _ 0 _ _ (0, 0) ((hV.block _ (Array.getElem?_eq_some_iff.1 HN2.out).1).trans HN2.out), cell_of_row V' _ 0 _ _ (0, 0) hB, cell_of_row V' _ 1 _ _ (0, 0) hB, cell_of_row V' _ 2 _ _ (0, 0) hB, cell_of_row V' _ 3 _ _ (0, 0) hB⟩
        have HCC : Hid (Calls Tryz.prog 68 #[.slice (some ⟨V.heap.size, 0, none⟩) 2 2] (V.alloc (.cells #[.slice ao p.length ca, .slice xa s.path.length xc] 39)) fun e w' => ∃ a1 k1, e = .returned (.slice a1 (p ++ s.path).length k1) ∧ Nums w' a1 (p ++ s.path) ∧ (a1 = none → k1 = 0) ∧ (p ++ s.path).length ≤ k1 ∧ Below V.heap.size V w') := by
          have hb := below_alloc V (.cells #[.slice ao p.length ca, .slice xa s.path.length xc] 39)
          have hnw := heap_alloc_new V (.cells #[.slice ao p.length ca, .slice xa s.path.length xc] 39)
          refine (concat2_any V.heap.size ao xa ca xc p s.path _ (cell_of_row _ _ 0 _ _ (0, 0) hnw) (cell_of_row _ _ 1 _ _ (0, 0) hnw) (HP2.out.nums.keep hb (Nat.le_refl _)) (hxN.keep hb (Nat.le_refl _)) HP2.out.nil hx0 HP2.out.cap hxc (by omega) (by omega)).mono ?_
          rintro e w' ⟨a1, k1, rfl, _, h2, h3, h4, h5⟩
          exact ⟨a1, k1, rfl, h2, h3, h4, hb.trans (h5.mono hb.size)⟩
        have HPO : Hid (∀ (a1 : Option Addr) (k1 : Nat) (W6 : World), Below V.heap.size V W6 → Nums W6 a1 (p ++ s.path) → (a1 = none → k1 = 0) → (p ++ s.path).length ≤ k1 → Calls Tryz.prog 69 #[.map (some M), .agg #[.slice xa s.path.length xc, .string xv, xn, .string xh], .iface t (ptr b), .slice a1 (p ++ s.path).length k1, .slice (some ⟨gq, oq, none⟩) q.length cb] W6 fun e w' =>
            ∃ gf2 lb2, e = .returned (.func (.func gf2) #[] lb2) ∧ (∀ args w, (callFunc gf2 args).run Tryz.prog w = .ok (.enter gf2 args) w) ∧ TellsPairs (tellL q (s.flat p)) gf2 lb2 w' ∧ Below V.heap.size V w') := fun a1 k1 W6 hV hN6 h0 hk6 => by
          have hF6 := HF2.out.keep (KpP.of_below hV)
          have hsk : KeysOk (s.flat p) := fun x hx => hkeys x (parts_flat hmem x hx)
          cases s with
          | val p' x' =>
            obtain ⟨rfl, hxs⟩ := hxk
            have hk1 := hsk (p ++ p', xv) (by simp [PS.flat])
            obtain ⟨⟨kk, hkk, hks⟩, hxz⟩ := hk1
            refine (pairsOf_val M ⟨xa, p'.length, xc, xv, xn, xh, hxn⟩ hxs (.iface t (ptr b)) a1 (some ⟨gq, oq, none⟩) k1 cb (p ++ p') q W6 hN6 h0 hk6 hF6.nums hF6.nil hF6.cap).mono ?_
            rintro e w' ⟨bP2, bF2, bx2, rfl, g1, g2, g3, g4⟩
            refine ⟨_, _, rfl, fun _ _ => by kernel_rfl, ?_, hV.trans (g4.mono hV.size)⟩
            rw [PS.flat, tellL_val q (p ++ p') kk xv hkk]
            have hkk : p ++ p' = pathN kk := hkk
            rw [hkk] at g1
            exact pairsOfV_tells bP2 bF2 bx2 a1 (some ⟨gq, oq, none⟩) k1 cb q kk xv _ _ _ w' g1 g2 g3 (by omega) hql (by have hxz : xv.size ≤ 400 := hxz; omega)
          | sub p' mm =>
            obtain ⟨rfl, hmn, hmu⟩ := hxk
            refine (pairsOf_sub Hk ok mm hmn M xa p'.length xc xn xh t b a1 k1 gq oq cb (p ++ p') q W6 (hmu.keep hV) hN6 h0 hk6 hF6.nums hF6.cap).mono ?_
            rintro e w' ⟨bA2, bP2, bF2, bS2, rfl, g1, g2⟩
            refine ⟨_, _, rfl, fun _ _ => by kernel_rfl, ?_, hV.trans (g2.mono hV.size)⟩
            have hlen : (p ++ p').length ≤ 1000 := by
              have hlen : p.length + p'.length ≤ 128 := hlen
              rw [List.length_append]; omega
            exact hsub p' mm hmem (p ++ p') q bA2 bP2 bF2 bS2 w' (parts_sub hwf hmem).1 hsk hql hlen g1
        have HPre : Hid (tellL q ((pre.map Prod.fst).flatMap (PS.flat p)) ++ tellL q (s.flat p) <+: tellL q (n.flat p)) := by
          obtain ⟨r, hr⟩ := hlt
          refine ⟨tellL q (r.flatMap (PS.flat p)), ?_⟩
          rw [← tellL_append, ← tellL_append, flat_parts n p, ← hr]
          simp [List.flatMap_append]
        have HTot : Hid (∀ A, J (tellL q ((pre.map Prod.fst).flatMap (PS.flat p)) ++ tellL q (s.flat p)) A → J (tellL q (((pre ++ [(s, (⟨xa, s.path.length, xc, xv, xn, xh, hxn⟩ : Pt))]).map Prod.fst).flatMap (PS.flat p))) A) := fun A h => by
          rw [List.map_append, List.flatMap_append, tellL_append]
          simpa using h
        have HI1 := hide hi1
        have HI2 := hide hi2
        obtain ⟨e1, e2, e3, e4, e5, e6, e7, e8⟩ := HC2.out V (Below.refl _ _)
        generalize tellL q ((pre.map Prod.fst).flatMap (PS.flat p)) = L0 at *
        clear hxk hxN hx0 hxc hi1 hi2 hlt hbx
        gi_wp2_with fail
        refine ⟨trivial, (CallsIn.inRound l2 (callsIn_wide.2 HCC.out)).mono ?_⟩
        rintro e w6 ⟨a1, k1, rfl, hn6, h06, hk6, hb6⟩
        have HO7 := hide (HPO.out a1 k1 w6 hb6 hn6 h06 hk6)
        rw [List.length_append] at HO7
        obtain ⟨e1, e2, e3, e4, e5, e6, e7, e8⟩ := HC2.out w6 hb6
        clear hn6 h06 hk6 hb6 HPO HCC
        gi_wp2_with fail
        refine ⟨trivial, (CallsIn.inRound l2 (callsIn_wide.2 HO7.out)).mono ?_⟩
        rintro e w7 ⟨gf2, lb2, rfl, eg2, hT2, hb7⟩
        have HT2 := hide hT2
        have hl7 : l < w7.heap.size := Nat.lt_of_lt_of_le (Nat.lt_of_lt_of_le hl5 HI2.out.size) hb7.size
        have hV7 := hb7.size
        have hr7 := (hb7.block _ hr2l).trans hr2
        have HY7 := hide ((hb7.block _ (Array.getElem?_eq_some_iff.1 HY5.out).1).trans HY5.out)
        have HJ7 := hide (hJ (l + 1) _ _ _ (by omega) HI1.out (Turned.of_below hb7))
        have HK7 := hide (KpP.of_below hb7)
        have HPy7 : Hid (Pays W5.heap.size V w7) := Pays.of_below hb7
        clear hT2 hb7 HO7 e1 e2 e3 e4 e5 e6 e7 e8 HC2
        gi_wp2_with fail
        refine rangeSN (α := ByteArray × ByteArray) (w := w7) (l0 := l2) (r0 := r2) rfl hr7 (by omega) (gf := gf2) (lb := lb2) rfl trivial eg2 (encs := encPair) (fun _ => rfl) (Fx := fun _ _ => True) (Kp := KpP) (Done := fun xs => xs = tellL q (s.flat p)) (fun pre2 z => pre2 ++ [z] <+: tellL q (s.flat p))
          (fun pre2 A => J (L0 ++ pre2) A ∧ KpP V A ∧ Pays W5.heap.size V A ∧ A.heap[W.heap.size]? = some (.cells #[.func (.yield l) #[] #[]] 127 (0, 0))) (fun c _ A => c = .ret ∧ (∃ xs, X xs A) ∧ KpP V A ∧ Pays W5.heap.size V A)
          (fun pre2 A A' h ht => ⟨hJ w7.heap.size _ _ _ hl7 h.1 ht, h.2.1.trans (KpP.of_turned ht), h.2.2.1.turn ht hV7, ht.same _ _ h.2.2.2 (.inr rfl)⟩) (fun c pre2 A A' h ht => ⟨h.1, h.2.1.imp fun xs hx => hX w7.heap.size _ _ _ hl7 hx ht, h.2.2.1.trans (KpP.of_turned ht), h.2.2.2.turn ht hV7⟩) (fun _ _ _ _ _ => trivial) (fun A A2 A3 A4 h1 h2 h3 => KpP.turn A A2 A3 A4 h1 h2 h3)
          (fun l3 J3 X3 W3 hl3 hT3 hJ3 hX3 hY3 hJ30 => CallsIn.inRound l2 (HT2.out 6 l3 J3 X3 W3 hl3 (KpP.of_turned hT3) hJ3 hX3 (fun m' pre x W1 h1 h2 h3 => any_round (hY3 pre x W1 h1 h2 h3)) hJ30))
          ⟨by rw [List.append_nil]; exact HJ7.out, HK7.out, HPy7.out, HY7.out⟩
          (fun z a' A => ∃ B2 : Nat, A.heap[B2]? = some (.cells #[.string z.1, .string z.2] 32 (0, 0)) ∧ a' = { tmps := #[.func (.yield l) #[] #[], .pointer (some ⟨bA, 0, none⟩), .pointer (some ⟨bP, 0, none⟩), .pointer (some ⟨bF, 0, none⟩), .pointer (some ⟨bS, 0, none⟩), .pointer (some ⟨W.heap.size, 0, none⟩), .pointer (some ⟨N, 0, none⟩), .int .i64 0, .pointer (some ⟨Bx, 0, none⟩), .slice a1 (p.length + s.path.length) k1, .pointer (some ⟨B2, 0, none⟩), .int .i64 0, .pointer (some ⟨bA, 0, none⟩), .bool false, .bool false, .slice ao p.length ca, .slice (some ⟨gq, oq, none⟩) q.length cb, .bool true, .bool false, .bool false, .tuple #[.iface t (ptr b), .int .i64 0], .map (some M), .agg #[.iface t (ptr b), .string g, ab, .int .i64 dp], .tuple #[.iface t (ptr b), .int .i64 0], .iface t (ptr b), .int .i64 0, .int .i64 0, .bool false, undef, undef, undef, undef, .iface t (ptr b), .func (.func gf) #[] #[.pointer (some ⟨N + 1, 0, none⟩)], .agg #[.slice xa s.path.length xc, .string xv, xn, .string xh], .slice ao p.length ca, .pointer (some ⟨Bx, 0, none⟩), .slice xa s.path.length xc, .slice (some ⟨V.heap.size, 0, none⟩) 2 2, .slice a1 (p.length + s.path.length) k1, .map (some M), .agg #[.slice xa s.path.length xc, .string xv, xn, .string xh], .iface t (ptr b), .slice a1 (p.length + s.path.length) k1, .slice (some ⟨gq, oq, none⟩) q.length cb, .func (.func gf2) #[] lb2, .agg #[.string z.1, .string z.2], .int .i64 0, undef, undef, undef, undef, undef], defers := [] })
          ?assign2 (fun z a' A A' ⟨B2, k1, k2⟩ ht => ⟨B2, ht.same _ _ k1 (.inr rfl), k2⟩) ?body2 ?done2 ?stop2
        case assign2 =>
          intro l4 pre2 z A K hi _ hK
          simp only [encPair]
          gi_wp2
          exact hK _ _ ⟨A.heap.size, heap_alloc_new A _, rfl⟩ ⟨hJ (l + 1) _ _ _ (by omega) hi.1 (Turned.of_below (below_alloc A _)), hi.2.1.trans (KpP.of_below (below_alloc A _)), hi.2.2.1.trans (Pays.of_below (below_alloc A _)), (Below.heap_alloc _ _ _ (Array.getElem?_eq_some_iff.1 hi.2.2.2).1).trans hi.2.2.2⟩ trivial (pays_alloc _ A _) (Turned.of_below (below_alloc A _))
        case body2 =>
          rintro l4 pre2 z a' A ⟨B2, hb2, rfl⟩ ⟨i1, i2, i3, i4⟩ _ hok _ _
          obtain ⟨fn, tmps, assign, body, hy, hR⟩ := hY 4 (L0 ++ pre2) z A i1 trivial (by
            rw [List.append_assoc]
            exact ((List.prefix_append_right_inj L0).2 hok).trans HPre.out)
          dsimp only [encPair] at hy
          have HR := hide hR
          have HI := hide (And.intro i2 i3)
          have f0 : A.cell? ⟨W.heap.size, 0, none⟩ = some (.func (.yield l) #[] #[]) := cell_of_row A _ 0 _ _ (0, 0) i4
          have f1 : A.cell? ⟨B2, 0, none⟩ = some (.string z.1) := cell_of_row A _ 0 _ _ (0, 0) hb2
          have f2 : A.cell? ⟨B2, 1, none⟩ = some (.string z.2) := cell_of_row A _ 1 _ _ (0, 0) hb2
          have HI4 := hide i4
          clear hR i1 i2 i3 i4 hok hb2
          gi_wp2_with fail
          refine RoundIn.mono (show RoundIn ((Fence.wide.inRound l2).inRound l4) 4 Tryz.prog l fn tmps assign body A _ from HR.out) ?_
          intro e A3 h
          obtain ⟨tf, rfl, hz, hk3, hp3⟩ := h.one
          rcases hz with ⟨rfl, hj3⟩ | ⟨rfl, hx3⟩
          · have HF3 := hide (And.intro hj3 (And.intro hk3 hp3))
            clear hj3 hk3 hp3 h
            gi_wp2
            obtain ⟨hj3, hk3, hp3⟩ := HF3.out
            refine ⟨hp3.less (by omega), hk3, ?_, HI.out.1.trans hk3, HI.out.2.trans (hp3.less (by omega)), hk3.same _ _ _ _ HI4.out (by decide) (by decide)⟩
            rw [← List.append_assoc]
            exact hj3
          · have HF3 := hide (And.intro hx3 (And.intro hk3 hp3))
            clear hx3 hk3 hp3 h
            gi_wp2
            obtain ⟨hx3, hk3, hp3⟩ := HF3.out
            exact ⟨hp3.less (by omega), hk3, rfl, ⟨_, hx3⟩, HI.out.1.trans hk3, HI.out.2.trans (hp3.less (by omega))⟩
        case done2 =>
          rintro xs A rfl ⟨i1, i2, i3, _⟩
          have HI := hide (And.intro i1 (And.intro i2 i3))
          clear i1 i2 i3
          gi_wp2
          obtain ⟨i1, i2, i3⟩ := HI.out
          exact ⟨i3, i2, HTot.out _ i1, HI2.out.trans i2⟩
        case stop2 =>
          rintro c xs A ⟨rfl, i1, i2, i3⟩
          have HI := hide (And.intro i1 (And.intro i2 i3))
          clear i1 i2 i3
          gi_wp2
          obtain ⟨i1, i2, i3⟩ := HI.out
          exact ⟨i3, i2, rfl, i1⟩
      case done =>
        rintro D xs V hD hs ⟨hi1, _⟩ hK
        gi_wp2
        refine ⟨by simp, .inl ⟨_, _, rfl, run_takeDeferred hK, ?_⟩⟩
        have hi3 := hJ W5.heap.size _ _ _ hl5 hi1 (Turned.put (o' := .deferred none) hD hK rfl)
        refine ⟨_, results_none rfl _ _ _, ⟨_, rfl⟩, .inl ⟨_, ?_, hi3⟩⟩
        rw [hs, ← flat_parts]
      case stop =>
        rintro D c xs V hD ⟨rfl, xs2, hx2⟩ hK
        gi_wp2
        refine ⟨by simp, .inl ⟨_, _, rfl, run_takeDeferred hK, ?_⟩⟩
        exact ⟨_, results_none rfl _ _ _, ⟨_, rfl⟩, .inr ⟨_, hX W5.heap.size _ _ _ hl5 hx2 (Turned.put (o' := .deferred none) hD hK rfl)⟩⟩
    · rw [decide_eq_false hmr]
      gi_wp2
      refine ⟨_, results_none rfl _ _ _, ⟨_, rfl⟩, .inl ⟨[], ?_, HJb.out _ HB3.out⟩⟩
      exact (tellL_none (fun x hx => by
        obtain ⟨r, e, _⟩ := (flat_mem n p x hwf).1 hx
        rw [e]
        exact plt_far p q r ((cmpL_neg _ _).1 (by omega)))).symm
/-- the pairs of every tree are told -/
theorem pairs_all (Hk : Nd → ByteArray → Prop) (ok : Nat → Prop) : ∀ n : Nd, PairsOk Hk ok n
  | .nil => pairs_step Hk ok .nil (fun p' m h => by simp [Nd.partsL] at h)
  | .leaf q x => pairs_step Hk ok (.leaf q x) (fun p' m h => by simp [Nd.partsL] at h)
  | .ext q n => pairs_step Hk ok (.ext q n) (fun p' m h => by
    have ih := pairs_all Hk ok n
    simp [Nd.partsL] at h
    obtain ⟨_, rfl⟩ := h
    exact ih)
  | .br c x => pairs_step Hk ok (.br c x) (fun p' m h => by
    have ih := fun i => pairs_all Hk ok (c i)
    simp only [Nd.partsL, List.mem_append, List.mem_map] at h
    rcases h with h | ⟨i, _, e⟩
    · split at h <;> simp at h
    · injection e with _ e
      subst e
      exact ih i)
end Go.Proofs.YtgepjjebjhidiaaGreatDoor
namespace Go.Proofs.YtgepjjebjhidiaaGreatDoor
open Go.RowKit Go.Shelf
attribute [local go_sem] Oper.semAt_some

theorem part_wf {n : Nd} {s : PS} (hw : n.WF) (h : s ∈ n.partsL) : s.tree.WF := by
  cases s with
  | val p x => exact trivial
  | sub p m => exact (parts_sub hw h).1
set_option maxRecDepth 100000 in
set_option maxHeartbeats 4000000 in
theorem nodes_step (ok : Nat → Prop) (n : Nd) (hsub : ∀ s ∈ n.partsL, NodesOk ok s.tree) : NodesOk ok n := by
  intro bA u g W0 hwf hA0 hn0 m l J X W hl hkp hJ hX hY hJ0
  have hA := hkp.same _ _ _ _ hA0 (by decide) (by decide) (by decide) (by decide)
  have hn := hkp.node _ _ hn0
  clear hkp hA0 hn0
  refine callsIn_wide.2 ((callsIn_wide (n := 9)).1 ?_)
  have hb1 := below_alloc W (.cells #[.func (.yield l) #[] #[]] 105)
  have hA1 := (hb1.block _ (Array.getElem?_eq_some_iff.1 hA).1).trans hA
  have d0 := cell_of_row _ _ 0 _ _ (0, 0) hA1
  have HJb : Hid (∀ W', Below W.heap.size W W' → J [] W') := fun W' hW => hJ (l + 1) _ _ _ (by omega) hJ0 (Turned.of_below hW)
  by_cases hnil : n = .nil
  · subst hnil
    obtain rfl : u = .nilIface := hn
    refine callsIn_of_wp_marks Tryz.func57 rfl trivial ?_ rfl
    simp only [Tryz.ntmps57, List.size_toArray, List.length_cons, List.length_nil, Nat.reduceAdd, Nat.reduceSub, Array.replicate_succ, Array.replicate_zero, List.push_toArray, List.append_toArray, List.nil_append, List.cons_append]
    gi_wp2_with (refine wpListIn_skip rfl rfl ?_)
    exact ⟨_, results_none rfl _ _ _, ⟨_, rfl⟩, .inl ⟨[], rfl, HJb.out _ hb1⟩⟩
  · obtain ⟨t, b, fid, gf, tt, rfl, htt, hm, efid, egf, hMade, hTells⟩ := node_parts_C ok n W u hwf hn hnil
    have hy1 : (W.alloc (.cells #[.func (.yield l) #[] #[]] 105)).heap[W.heap.size]? = some (.cells #[.func (.yield l) #[] #[]] 105 (0, 0)) := heap_alloc_new W _
    have dY := cell_of_row _ _ 0 _ _ (0, 0) hy1
    have hnl := nodes_parts n hnil
    obtain ⟨fn, tmps, assign, body, hy, hR⟩ := hY 8 [] (n, .iface t (ptr b)) _ (HJb.out _ hb1) ⟨hnil, hn.keep hb1, .inl ⟨rfl, rfl⟩⟩ (by rw [hnl]; simp)
    dsimp only [encNode] at hy
    have HR := hide hR
    clear hR
    refine callsIn_of_wp_marks Tryz.func57 rfl trivial ?_ rfl
    simp only [Tryz.ntmps57, List.size_toArray, List.length_cons, List.length_nil, Nat.reduceAdd, Nat.reduceSub, Array.replicate_succ, Array.replicate_zero, List.push_toArray, List.append_toArray, List.nil_append, List.cons_append]
    gi_wp2_with fail
    refine HR.out.mono ?_
    intro e W3 h
    obtain ⟨tf, rfl, hz, hk3, _⟩ := h.one
    rcases hz with ⟨rfl, hj3⟩ | ⟨rfl, hx3⟩
    · have hA3 := hk3.same _ _ _ _ hA1 (by decide) (by decide) (by decide) (by decide)
      have hn3 : NdAt HkC ok W3 n (.iface t (ptr b)) := hk3.node _ _ (hn.keep hb1)
      have y3 := hk3.same _ _ _ _ hy1 (by decide) (by decide) (by decide) (by decide)
      have c3 : W3.cell? ⟨bA, 0, none⟩ = some (.iface t (ptr b)) := cell_of_row W3 _ 0 _ _ (0, 0) hA3
      have hl3 : l < W3.heap.size := Nat.lt_of_lt_of_le hl (Nat.le_trans hb1.size hk3.size)
      have HJ3 := hide hj3
      clear hj3 h hk3 hA1 hy1 d0 dY HR hy hb1 hA HJb
      gi_wp2_with fail
      refine ⟨trivial, (callsIn_wide.2 (hMade _)).mono ?_⟩
      rintro e w4 ⟨rfl, rfl⟩
      obtain ⟨N, hN⟩ : ∃ N, N = W3.heap.size := ⟨_, rfl⟩
      obtain ⟨W5, hW5⟩ : ∃ W5, W5 = W3.alloc (.cells #[ptr b] tt) := ⟨_, rfl⟩
      have hb5 : Below W3.heap.size W3 W5 := by rw [hW5]; exact below_alloc _ _
      have p5 : W5.heap[N]? = some (.cells #[ptr b] tt (0, 0)) := by rw [hW5, hN]; exact heap_alloc_new W3 _
      have y5 := (hb5.block _ (Array.getElem?_eq_some_iff.1 y3).1).trans y3
      simp only [← hW5, ← hN]
      have hl5 : l < W5.heap.size := Nat.lt_of_lt_of_le hl3 hb5.size
      have hNd5 : NdAt HkC ok W5 n (.iface t (ptr b)) := hn3.keep hb5
      have HT := hide (hTells W5 N p5 hNd5)
      have HJ5 := hide (hJ (l + 1) _ _ _ (by omega) HJ3.out (Turned.of_below hb5))
      clear hW5 hN hb5 HJ3 c3 y3 hA3
      gi_wp2_with fail
      refine rangeS (α := PS × Pt) (w := W5) rfl (by omega) (gf := gf) (lb := #[.pointer (some ⟨N, 0, none⟩)]) rfl trivial egf (encs := encPart) (fun _ => rfl) (Fx := PtC ok) (Kp := KpC ok) (Done := fun xs => xs.map Prod.fst = n.partsL) (fun pre y => (pre ++ [y]).map Prod.fst <+: n.partsL)
        (fun pre A => (∃ ys : List (Nd × Value), ys.map Prod.fst = n :: (pre.map Prod.fst).flatMap PS.nodes ∧ J ys A) ∧ KpC ok W5 A) (fun c _ A => c = .ret ∧ ∃ xs, X xs A)
        (fun pre A A' h ht => ⟨h.1.imp fun ys hy => ⟨hy.1, hJ W5.heap.size _ _ _ hl5 hy.2 ht⟩, h.2.trans (KpC.of_turned ht)⟩) (fun c pre A A' h ht => ⟨h.1, h.2.imp fun xs hx => hX W5.heap.size _ _ _ hl5 hx ht⟩) (fun x A A' h ht => h.keep (KpC.of_turned ht)) (fun A A2 A3 A4 h1 h2 h3 => KpC.turn A A2 A3 A4 h1 h2 h3)
        (fun l3 J3 X3 W3 hl3 hT3 hJ3 hX3 hY3 hJ30 => HT.out 8 l3 J3 X3 W3 hl3 (KpC.of_turned hT3) hJ3 hX3 (fun m' pre x W1 h1 h2 h3 => any_round (hY3 pre x W1 h1 h2 h3)) hJ30)
        ⟨⟨_, rfl, HJ5.out⟩, KpC.refl _⟩
        (fun y a' V => ∃ Bx : Nat, V.heap[Bx]? = some (.cells #[.slice y.2.ao y.2.len y.2.cap, .string y.2.val, y.2.node, .string y.2.hash] 110 (0, 0)) ∧ a' = { tmps := #[.func (.yield l) #[] #[], .pointer (some ⟨bA, 0, none⟩), .pointer (some ⟨W.heap.size, 0, none⟩), .pointer (some ⟨Bx, 0, none⟩), undef, .pointer (some ⟨bA, 0, none⟩), .iface t (ptr b), .bool false, .bool false, .func (.yield l) #[] #[], .pointer (some ⟨bA, 0, none⟩), .iface t (ptr b), .bool true, .bool false, .bool false, .pointer (some ⟨bA, 0, none⟩), .iface t (ptr b), .func (.func gf) #[] #[.pointer (some ⟨N, 0, none⟩)], .agg #[.slice y.2.ao y.2.len y.2.cap, .string y.2.val, y.2.node, .string y.2.hash], undef, undef, undef, undef, undef, undef, undef, undef], defers := [] })
        ?assign (fun y a' A A' ⟨Bx, k1, k2⟩ ht => ⟨Bx, ht.same _ _ k1 (.inr rfl), k2⟩) ?body ?done ?stop
      case assign =>
        intro l2 pre y V K hi hx hK
        obtain ⟨s, xa, xl, xc, xv, xn, xh, hxn⟩ := y
        simp only [encPart, Pt.enc]
        rcases hxn with rfl | ⟨t2, b2, rfl⟩
        all_goals
          gi_wp2
          exact hK _ _ ⟨V.heap.size, heap_alloc_new V _, rfl⟩ ⟨hi.1.imp fun ys hy => ⟨hy.1, hJ W5.heap.size _ _ _ hl5 hy.2 (Turned.of_below (below_alloc V _))⟩, hi.2.trans (KpC.of_below (below_alloc V _))⟩ (hx.keep (KpC.of_below (below_alloc V _))) (pays_alloc _ V _) (Turned.of_below (below_alloc V _))
      case body =>
        rintro l2 pre y a' V ⟨Bx, hbx, rfl⟩ ⟨⟨ys, hys, hi1⟩, hi2⟩ hx hlt hl2 ⟨r2, hr2⟩
        obtain ⟨s, xa, xl, xc, xv, xn, xh, hxn⟩ := y
        dsimp only at hbx ⊢
        have hx : NdAt HkC ok V s.tree xn := hx
        have hmem : s ∈ n.partsL := hlt.subset (by simp)
        have hszp := sz_part hnil hmem
        have HY5 := hide (hi2.same _ _ _ _ y5 (by decide) (by decide) (by decide) (by decide))
        have e7 : V.cell? ⟨Bx, 2, none⟩ = some xn := cell_of_row V _ 2 _ _ (0, 0) hbx
        have e8 : V.cell? ⟨Bx, 3, none⟩ = some (.string xh) := cell_of_row V _ 3 _ _ (0, 0) hbx
        have hb7 := below_alloc V (.cells #[xn, .string xh] 57)
        have HT2 := hide (hsub s hmem V.heap.size xn xh _ (part_wf hwf hmem) (heap_alloc_new V (.cells #[xn, .string xh] 57)) (hx.keep hb7))
        have HPre : Hid (ys.map Prod.fst ++ s.nodes <+: n.nodesL) := by
          have h := flatMap_prefix PS.nodes hlt
          rw [List.map_append, List.flatMap_append] at h
          show _ <+: _
          rw [hys, hnl, List.cons_append, List.cons_prefix_cons]
          exact ⟨rfl, by simpa using h⟩
        have HTot : Hid (∀ zs : List (Nd × Value), zs.map Prod.fst = s.nodes → (ys ++ zs).map Prod.fst = n :: ((pre ++ [(s, (⟨xa, xl, xc, xv, xn, xh, hxn⟩ : Pt))]).map Prod.fst).flatMap PS.nodes) := fun zs hzs => by
          rw [List.map_append, hys, hzs, List.map_append, List.flatMap_append]
          simp
        have HI1 := hide hi1
        have HI2 := hide hi2
        have hr7 := (hb7.block _ (Array.getElem?_eq_some_iff.1 hr2).1).trans hr2
        have hl7 : l < (V.alloc (.cells #[xn, .string xh] 57)).heap.size := Nat.lt_of_lt_of_le (Nat.lt_of_lt_of_le hl5 HI2.out.size) hb7.size
        have hV7 := hb7.size
        have HY7 := hide ((hb7.block _ (Array.getElem?_eq_some_iff.1 HY5.out).1).trans HY5.out)
        have HJ7 := hide (hJ (l + 1) _ _ _ (by omega) HI1.out (Turned.of_below hb7))
        have HK7 := hide (KpC.of_below (ok := ok) hb7)
        have HPy7 : Hid (Pays W5.heap.size V _) := Pays.of_below hb7
        clear hi1 hi2 hlt hbx hb7 hx hys
        gi_wp2_with fail
        refine ⟨trivial, (CallsIn.inRound l2 (callsIn_wide.2 (nodes_made xn xh hxn V))).mono ?_⟩
        rintro e w7 ⟨rfl, hw7⟩
        rw [← hw7] at HT2 hr7 hl7 hV7 HY7 HJ7 HK7 HPy7
        clear hw7 e7 e8
        gi_wp2_with fail
        refine rangeSN (α := Nd × Value) (w := w7) (l0 := l2) (r0 := r2) rfl hr7 (by omega) (gf := 57) (lb := #[.pointer (some ⟨V.heap.size, 0, none⟩)]) rfl trivial (fun _ _ => by kernel_rfl) (encs := encNode) (fun _ => rfl) (Fx := NsC ok s.tree xn) (Kp := KpC ok) (Done := fun xs => xs.map Prod.fst = s.tree.nodesL) (fun pre2 z => (pre2 ++ [z]).map Prod.fst <+: s.tree.nodesL)
          (fun pre2 A => J (ys ++ pre2) A ∧ KpC ok V A ∧ Pays W5.heap.size V A ∧ A.heap[W.heap.size]? = some (.cells #[.func (.yield l) #[] #[]] 105 (0, 0))) (fun c _ A => c = .ret ∧ (∃ xs, X xs A) ∧ KpC ok V A ∧ Pays W5.heap.size V A)
          (fun pre2 A A' h ht => ⟨hJ w7.heap.size _ _ _ hl7 h.1 ht, h.2.1.trans (KpC.of_turned ht), h.2.2.1.turn ht hV7, ht.same _ _ h.2.2.2 (.inr rfl)⟩) (fun c pre2 A A' h ht => ⟨h.1, h.2.1.imp fun xs hx => hX w7.heap.size _ _ _ hl7 hx ht, h.2.2.1.trans (KpC.of_turned ht), h.2.2.2.turn ht hV7⟩) (fun x A A' h ht => h.keep (KpC.of_turned ht)) (fun A A2 A3 A4 h1 h2 h3 => KpC.turn A A2 A3 A4 h1 h2 h3)
          (fun l3 J3 X3 W3 hl3 hT3 hJ3 hX3 hY3 hJ30 => CallsIn.inRound l2 (HT2.out 6 l3 J3 X3 W3 hl3 (KpC.of_turned hT3) hJ3 hX3 (fun m' pre x W1 h1 h2 h3 => any_round (hY3 pre x W1 h1 h2 h3)) hJ30))
          ⟨by rw [List.append_nil]; exact HJ7.out, HK7.out, HPy7.out, HY7.out⟩
          (fun z a' _ => a' = { tmps := #[.func (.yield l) #[] #[], .pointer (some ⟨bA, 0, none⟩), .pointer (some ⟨W.heap.size, 0, none⟩), .pointer (some ⟨Bx, 0, none⟩), z.2, .pointer (some ⟨bA, 0, none⟩), .iface t (ptr b), .bool false, .bool false, .func (.yield l) #[] #[], .pointer (some ⟨bA, 0, none⟩), .iface t (ptr b), .bool true, .bool false, .bool false, .pointer (some ⟨bA, 0, none⟩), .iface t (ptr b), .func (.func gf) #[] #[.pointer (some ⟨N, 0, none⟩)], .agg #[.slice xa xl xc, .string xv, xn, .string xh], .pointer (some ⟨Bx, 2, none⟩), .agg #[xn, .string xh], .func (.func 57) #[] #[.pointer (some ⟨V.heap.size, 0, none⟩)], z.2, undef, undef, undef, undef], defers := [] })
          ?assign2 (fun z a' A A' h _ => h) ?body2 ?done2 ?stop2
        case assign2 =>
          intro l4 pre2 z A K hi hz hK
          simp only [encNode]
          gi_wp2
          exact hK _ _ rfl hi hz (Pays.of_below (Below.refl _ _)) (Turned.of_below (Below.refl _ _))
        case body2 =>
          rintro l4 pre2 z a' A rfl ⟨i1, i2, i3, i4⟩ hz hok _ _
          have hzs : z.1.sz < n.sz := by
            rcases hz.2.2 with ⟨h, _⟩ | h
            · rw [h]; exact hszp
            · omega
          obtain ⟨fn, tmps, assign, body, hy, hR⟩ := hY 4 (ys ++ pre2) z A i1 ⟨hz.1, hz.2.1, .inr hzs⟩ (by
            rw [List.append_assoc, List.map_append]
            exact ((List.prefix_append_right_inj _).2 hok).trans HPre.out)
          dsimp only [encNode] at hy
          have HR := hide hR
          have HI := hide (And.intro i2 i3)
          have f0 : A.cell? ⟨W.heap.size, 0, none⟩ = some (.func (.yield l) #[] #[]) := cell_of_row A _ 0 _ _ (0, 0) i4
          have HI4 := hide i4
          clear hR i1 i2 i3 i4 hok hz
          gi_wp2_with fail
          refine RoundIn.mono (show RoundIn ((Fence.wide.inRound l2).inRound l4) 4 Tryz.prog l fn tmps assign body A _ from HR.out) ?_
          intro e A3 h
          obtain ⟨tf, rfl, hz, hk3, hp3⟩ := h.one
          rcases hz with ⟨rfl, hj3⟩ | ⟨rfl, hx3⟩
          · have HF3 := hide (And.intro hj3 (And.intro hk3 hp3))
            clear hj3 hk3 hp3 h
            gi_wp2
            obtain ⟨hj3, hk3, hp3⟩ := HF3.out
            refine ⟨hp3.less (by omega), hk3, ?_, HI.out.1.trans hk3, HI.out.2.trans (hp3.less (by omega)), hk3.same _ _ _ _ HI4.out (by decide) (by decide) (by decide) (by decide)⟩
            rw [← List.append_assoc]
            exact hj3
          · have HF3 := hide (And.intro hx3 (And.intro hk3 hp3))
            clear hx3 hk3 hp3 h
            gi_wp2
            obtain ⟨hx3, hk3, hp3⟩ := HF3.out
            exact ⟨hp3.less (by omega), hk3, rfl, ⟨_, hx3⟩, HI.out.1.trans hk3, HI.out.2.trans (hp3.less (by omega))⟩
        case done2 =>
          rintro xs A hxs ⟨i1, i2, i3, _⟩
          have HI := hide (And.intro i1 (And.intro i2 i3))
          clear i1 i2 i3
          gi_wp2
          obtain ⟨i1, i2, i3⟩ := HI.out
          exact ⟨i3, i2, ⟨_, HTot.out xs hxs, i1⟩, HI2.out.trans i2⟩
        case stop2 =>
          rintro c xs A ⟨rfl, i1, i2, i3⟩
          have HI := hide (And.intro i1 (And.intro i2 i3))
          clear i1 i2 i3
          gi_wp2
          obtain ⟨i1, i2, i3⟩ := HI.out
          exact ⟨i3, i2, rfl, i1⟩
      case done =>
        rintro D xs V hD hs ⟨⟨ys, hys, hi1⟩, _⟩ hK
        gi_wp2
        refine ⟨by simp, .inl ⟨_, _, rfl, run_takeDeferred hK, ?_⟩⟩
        have hi3 := hJ W5.heap.size _ _ _ hl5 hi1 (Turned.put (o' := .deferred none) hD hK rfl)
        refine ⟨_, results_none rfl _ _ _, ⟨_, rfl⟩, .inl ⟨ys, ?_, hi3⟩⟩
        rw [hys, hs, hnl]
      case stop =>
        rintro D c xs V hD ⟨rfl, xs2, hx2⟩ hK
        gi_wp2
        refine ⟨by simp, .inl ⟨_, _, rfl, run_takeDeferred hK, ?_⟩⟩
        exact ⟨_, results_none rfl _ _ _, ⟨_, rfl⟩, .inr ⟨_, hX W5.heap.size _ _ _ hl5 hx2 (Turned.put (o' := .deferred none) hD hK rfl)⟩⟩
    · gi_wp2
      exact ⟨_, results_none rfl _ _ _, ⟨_, rfl⟩, .inr ⟨_, hx3⟩⟩
/-- the nodes of every tree are told -/
theorem nodes_all (ok : Nat → Prop) : ∀ n : Nd, NodesOk ok n
  | .nil => nodes_step ok .nil (fun s h => by simp [Nd.partsL] at h)
  | .leaf q x => nodes_step ok (.leaf q x) (fun s h => by
    have hn := nodes_step ok .nil (fun s h => by simp [Nd.partsL] at h)
    simp [Nd.partsL] at h
    subst h
    exact hn)
  | .ext q n => nodes_step ok (.ext q n) (fun s h => by
    have ih := nodes_all ok n
    simp [Nd.partsL] at h
    subst h
    exact ih)
  | .br c x => nodes_step ok (.br c x) (fun s h => by
    have ih := fun i => nodes_all ok (c i)
    have hn := nodes_step ok .nil (fun s h => by simp [Nd.partsL] at h)
    simp only [Nd.partsL, List.mem_append, List.mem_map] at h
    rcases h with h | ⟨i, _, rfl⟩
    · split at h
      · simp at h
      · simp at h
        subst h
        exact hn
    · exact ih i)
end Go.Proofs.YtgepjjebjhidiaaGreatDoor
namespace Go.Proofs.YtgepjjebjhidiaaGreatDoor
open Go.RowKit

/-- has a store a name? -/
def hasN (S : List Pr) (k : ByteArray) : Bool := (S.find? (fun p => decide (p.1 = k))).isSome
theorem hasN_iff (S : List Pr) (k : ByteArray) : hasN S k = true ↔ ∃ p ∈ S, p.1 = k := by
  unfold hasN
  rw [List.find?_isSome]
  constructor
  · rintro ⟨p, h1, h2⟩
    exact ⟨p, h1, by simpa using h2⟩
  · rintro ⟨p, h1, h2⟩
    exact ⟨p, h1, by simpa using h2⟩
theorem hasN_mono {S S' : List Pr} (h : ∀ p ∈ S, p ∈ S') {k : ByteArray} (hk : hasN S k = true) : hasN S' k = true := by
  obtain ⟨p, h1, h2⟩ := (hasN_iff S k).1 hk
  exact (hasN_iff S' k).2 ⟨p, h p h1, h2⟩
def stepE (S told : List Pr) (c : ByteArray) : List Pr := if hasN (S ++ told) (hashOf c) = true then told else told ++ [(hashOf c, c)]
/-- the new entries of a store, code by code -/
def newE (S : List Pr) (cs : List ByteArray) : List Pr := cs.foldl (stepE S) []
theorem newE_snoc (S : List Pr) (cs : List ByteArray) (c : ByteArray) : newE S (cs ++ [c]) = stepE S (newE S cs) c := by simp [newE]
/-- entries under their hashes, no name twice -/
structure EntOk (L : List Pr) : Prop where
  right : ∀ p ∈ L, p.1 = hashOf p.2
  once : L.Pairwise (fun a b => a.1 ≠ b.1)
theorem EntOk.step {S told : List Pr} (h : EntOk told) (c : ByteArray) : EntOk (stepE S told c) := by
  unfold stepE
  split
  · exact h
  · rename_i hn
    refine ⟨fun p hp => ?_, ?_⟩
    · rcases List.mem_append.1 hp with hp | hp
      · exact h.right p hp
      · have e : p = (hashOf c, c) := by simpa using hp
        rw [e]
    · rw [List.pairwise_append]
      refine ⟨h.once, List.pairwise_singleton _ _, fun a ha b hb e => ?_⟩
      have e2 : b = (hashOf c, c) := by simpa using hb
      rw [e2] at e
      exact hn ((hasN_iff _ _).2 ⟨a, List.mem_append_right _ ha, e⟩)
theorem step_grows (S told : List Pr) (c : ByteArray) : (∀ p ∈ told, p ∈ stepE S told c) ∧ hasN (S ++ stepE S told c) (hashOf c) = true := by
  unfold stepE
  split
  · rename_i h
    exact ⟨fun p hp => hp, h⟩
  · exact ⟨fun p hp => List.mem_append_left _ hp, (hasN_iff _ _).2 ⟨(hashOf c, c), by simp, rfl⟩⟩
theorem fold_grows (S : List Pr) : ∀ (cs : List ByteArray) (told : List Pr), ∀ p ∈ told, p ∈ cs.foldl (stepE S) told
  | [], _, _, hp => hp
  | c :: cs, told, p, hp => fold_grows S cs _ p ((step_grows S told c).1 p hp)
theorem fold_ok (S : List Pr) : ∀ (cs : List ByteArray) (told : List Pr), EntOk told → EntOk (cs.foldl (stepE S) told)
  | [], _, h => h
  | c :: cs, _, h => fold_ok S cs _ (h.step c)
theorem fold_has (S : List Pr) : ∀ (cs : List ByteArray) (told : List Pr), ∀ c ∈ cs, hasN (S ++ cs.foldl (stepE S) told) (hashOf c) = true
  | c' :: cs, told, c, hc => by
    rcases List.mem_cons.1 hc with rfl | hc
    · refine hasN_mono (fun p hp => ?_) (step_grows S told c).2
      rcases List.mem_append.1 hp with hp | hp
      · exact List.mem_append_left _ hp
      · exact List.mem_append_right _ (fold_grows S cs _ p hp)
    · exact fold_has S cs _ c hc
theorem newE_ok (S : List Pr) (cs : List ByteArray) : EntOk (newE S cs) := fold_ok S cs [] ⟨fun p hp => by simp at hp, List.Pairwise.nil⟩
theorem newE_has (S : List Pr) (cs : List ByteArray) : ∀ c ∈ cs, hasN (S ++ newE S cs) (hashOf c) = true := fold_has S cs []
theorem fold_none (S : List Pr) : ∀ (cs : List ByteArray), (∀ c ∈ cs, hasN S (hashOf c) = true) → cs.foldl (stepE S) [] = []
  | [], _ => rfl
  | c :: cs, h => by
    have e : stepE S [] c = [] := by unfold stepE; rw [List.append_nil, if_pos (h c (List.mem_cons_self ..))]
    rw [List.foldl_cons, e]
    exact fold_none S cs (fun c hc => h c (List.mem_cons_of_mem _ hc))
/-- what was told once isn't told again -/
theorem newE_again (S : List Pr) (cs : List ByteArray) : newE (S ++ newE S cs) cs = [] := fold_none _ cs (newE_has S cs)
/-- is a node of the tree n told? -/
def keepsN (n m : Nd) : Bool := decide (n.sz ≤ m.sz) || decide (32 ≤ m.code.size)
def codesOf (n : Nd) (ms : List Nd) : List ByteArray := (ms.filter (keepsN n)).map Nd.code
theorem codesOf_snoc (n : Nd) (ms : List Nd) (m : Nd) : codesOf n (ms ++ [m]) = codesOf n ms ++ (if keepsN n m = true then [m.code] else []) := by
  unfold codesOf
  rw [List.filter_append, List.map_append]
  congr 1
  by_cases h : keepsN n m = true
  · simp [h]
  · simp [h]
/-- what Commit tells of a tree, over a store -/
def toldOf (S : List Pr) (n : Nd) : List Pr := newE S (codesOf n n.nodesL)
theorem toldOf_some (n : Nd) (h : n ≠ .nil) : toldOf [] n ≠ [] := fun e => by
  have h1 := newE_has [] (codesOf n n.nodesL) n.code (by
    rw [nodes_parts n h]
    refine List.mem_map.2 ⟨n, List.mem_filter.2 ⟨List.mem_cons_self .., ?_⟩, rfl⟩
    simp [keepsN])
  unfold toldOf at e
  rw [e] at h1
  simp [hasN] at h1
theorem toldOf_nil (S : List Pr) : toldOf S .nil = [] := rfl
/-- entries by rising names -/
def Rises (L : List Pr) : Prop := L.Pairwise (fun a b => Op.bytesLess a.1.toList b.1.toList = true)
theorem iface_ne {t t' : TypeId} {b b' : Nat} {v : Value} (e : v = .iface t (ptr b)) (e' : v = .iface t' (ptr b')) (h : t ≠ t') : False := by
  rw [e] at e'
  injection e' with e' _
  exact h e'
set_option maxHeartbeats 1000000 in
theorem NdAt.sz_eq {Hk : Nd → ByteArray → Prop} {ok ok' : Nat → Prop} {w : World} : ∀ (n n' : Nd) (v : Value), NdAt Hk ok w n v → NdAt Hk ok' w n' v → n.sz = n'.sz
  | .nil, n', v, h, h' => by
    have hv : v = .nilIface := h
    subst hv
    cases n' with
    | nil => rfl
    | leaf p x => obtain ⟨b, _, _, e, _⟩ := h'; cases e
    | ext p m => obtain ⟨b, _, _, _, _, e, _⟩ := h'; cases e
    | br c x => obtain ⟨b, _, _, e, _⟩ := h'; cases e
  | .leaf p x, n', v, h, h' => by
    obtain ⟨b, _, _, e, _⟩ := h
    cases n' with
    | nil => have h' : v = .nilIface := h'; rw [h'] at e; cases e
    | leaf p x => rfl
    | ext p m => obtain ⟨b', _, _, _, _, e', _⟩ := h'; exact (iface_ne e e' (by decide)).elim
    | br c x => obtain ⟨b', _, _, e', _⟩ := h'; exact (iface_ne e e' (by decide)).elim
  | .ext p m, n', v, h, h' => by
    obtain ⟨b, ao, cap, u, g, e, _, _, h2, _, _, _, h6, _⟩ := h
    cases n' with
    | nil => have h' : v = .nilIface := h'; rw [h'] at e; cases e
    | leaf p x => obtain ⟨b', _, _, e', _⟩ := h'; exact (iface_ne e e' (by decide)).elim
    | ext p' m' =>
      obtain ⟨b', ao', cap', u', g', e', _, _, h2', _, _, _, h6', _⟩ := h'
      obtain rfl : b = b' := by rw [e] at e'; simpa [ptr] using e'
      rw [h2] at h2'
      simp only [Option.some.injEq, Obj.cells.injEq] at h2'
      obtain ⟨_, rfl, _⟩ : (ao = ao' ∧ p.length = p'.length ∧ cap = cap') ∧ u = u' ∧ g = g' := by simpa using h2'.1
      have := NdAt.sz_eq m m' u h6 h6'
      simp [Nd.sz, this]
    | br c x => obtain ⟨b', _, _, e', _⟩ := h'; exact (iface_ne e e' (by decide)).elim
  | .br c x, n', v, h, h' => by
    obtain ⟨b, us, hs, e, _, h2, h3⟩ := h
    cases n' with
    | nil => have h' : v = .nilIface := h'; rw [h'] at e; cases e
    | leaf p x => obtain ⟨b', _, _, e', _⟩ := h'; exact (iface_ne e e' (by decide)).elim
    | ext p m => obtain ⟨b', _, _, _, _, e', _⟩ := h'; exact (iface_ne e e' (by decide)).elim
    | br c' x' =>
      obtain ⟨b', us', hs', e', _, h2', h3'⟩ := h'
      obtain rfl : b = b' := by rw [e] at e'; simpa [ptr] using e'
      have hc : ∀ i, i < 16 → (c i).sz = (c' i).sz := fun i hi => by
        have e1 := (br_ref h2 i hi).1
        have e2 := (br_ref h2' i hi).1
        rw [e1] at e2
        have e3 : us i = us' i := by simpa using e2
        have h4 : NdAt Hk ok' w (c' i) (us i) := by rw [e3]; exact (h3' i hi).1
        exact NdAt.sz_eq (c i) (c' i) (us i) (h3 i hi).1 h4
      have hm : (List.range 16).map (fun i => (c i).sz) = (List.range 16).map (fun i => (c' i).sz) := List.map_congr_left (fun i hi => hc i (List.mem_range.1 hi))
      show _ + 1 = _ + 1
      rw [hm]
end Go.Proofs.YtgepjjebjhidiaaGreatDoor
