/-
  OUR OWN: CmB OrC OrD OrE.
-/
import Derived.Test.YtgepjjebjhidiaaGreatDoorG38
import Derived.Test.YtgepjjebjhidiaaGreatDoorG39
import Derived.Test.YtgepjjebjhidiaaGreatDoorG34
import Derived.Test.YtgepjjebjhidiaaGreatDoorG40
import Derived.Test.YtgepjjebjhidiaaGreatDoorG36
namespace Go.Proofs.YtgepjjebjhidiaaGreatDoor
open Go.RowKit Go.Shelf
attribute [local go_sem] Oper.semAt_some

/-- what Commit answers -/
def CommitPost (ok : Nat → Prop) (M : Nat) (S : List Pr) (n : Nd) (w : World) (e : Ending) (w' : World) : Prop := ∃ (ao : Option Addr) (c : Nat) (L : List Pr), e = .returned (.slice ao L.length c) ∧ L.Perm (toldOf S n) ∧ Ranked L ∧ Prs w' ao L ∧ (ao = none → c = 0) ∧ L.length ≤ c ∧ (∀ a, ao = some a → a.spot = none ∧ w.heap.size ≤ a.block) ∧ CmK ok M w w' ∧ StoreAt w' M (S ++ toldOf S n)
theorem infoEnt : (Tryz.prog.info? 48).map (fun i => (i.zero, i.size, i.bytes)) = some (some (.agg #[.string ⟨#[]⟩, .string ⟨#[]⟩]), 2, 32) := by kernel_rfl
set_option maxRecDepth 100000 in
set_option maxHeartbeats 8000000 in
theorem tCommit_any (ok : Nat → Prop) (T M : Nat) (S : List Pr) (n : Nd) (w : World) (hA : TreeAt HkC ok w T (.map (some M)) n) (hO : TOk n) (hT : TbZ w) (hok : ∀ k, ok k → 3 ≤ k ∧ k ≠ M) (hM : 3 ≤ M) (hS : StoreAt w M S) (hSo : StOk S) (hsz : n.sz ≤ 1000000) :
    Calls Tryz.prog 26 #[ptr T] w fun e w' => CommitPost ok M S n w e w' := by
  refine (callsIn_wide (n := 9)).1 ?_
  have hmo : Tryz.prog.follows .mixedOrders = true := by kernel_rfl
  have hTl := hA.lt
  obtain ⟨u, hTh, hn⟩ := hA.held
  have hTM : T ≠ M := fun e => by
    obtain ⟨es, c, h1, _⟩ := hS.at'
    rw [← e, hTh] at h1
    cases h1
  have hTo : ¬ ok T := fun h => (hA.blk T h).2 rfl
  have HC : Hid (∀ A, CmK ok M w A → A.cell? ⟨T, 0, none⟩ = some (.map (some M)) ∧ A.cell? ⟨T, 1, none⟩ = some u ∧ A.cell? ⟨T, 2, none⟩ = some (.string e0)) := fun A hK => by
    have h := (hK.far T hTl hTo hTM).trans hTh
    exact ⟨cell_of_row _ _ 0 _ _ (0, 0) h, cell_of_row _ _ 1 _ _ (0, 0) h, cell_of_row _ _ 2 _ _ (0, 0) h⟩
  obtain ⟨W1, hW1⟩ : ∃ W1, W1 = (w.alloc (.cells #[ptr T] 68)).alloc (.cells #[.slice none 0 0] 43) := ⟨_, rfl⟩
  have hb1 : Below w.heap.size w W1 := by rw [hW1]; exact below_alloc2 _ _ _
  have q1 : W1.heap[w.heap.size]? = some (.cells #[ptr T] 68 (0, 0)) := by
    rw [hW1, Below.heap_alloc _ _ _ (by simp)]
    exact heap_alloc_new w _
  have q2 : W1.heap[w.heap.size + 1]? = some (.cells #[.slice none 0 0] 43 (0, 0)) := by
    have h := heap_alloc_new (w.alloc (.cells #[ptr T] 68)) (.cells #[.slice none 0 0] 43)
    rw [World.size_alloc] at h
    rw [hW1]; exact h
  have hs1 : W1.heap.size = w.heap.size + 2 := by rw [hW1]; simp
  have d0 : W1.cell? ⟨w.heap.size, 0, none⟩ = some (ptr T) := cell_of_row _ _ 0 _ _ (0, 0) q1
  obtain ⟨cT0, cT1, cT2⟩ := HC.out W1 ((CmK.refl ok M w).below hb1)
  have hb2 := below_alloc W1 (.cells #[u, .string e0] 57)
  have hb12 := hb1.trans (hb2.mono hb1.size)
  have HI0 : Hid (CmI ok T M S w [] (W1.alloc (.cells #[u, .string e0] 57))) := ⟨(CmK.refl ok M w).below hb12, (hb2.block _ (by omega)).trans q1, ⟨_, (hb2.block _ (by omega)).trans q2, World.ownsRow_nil _ _ _ _⟩, by
    rw [List.append_nil]
    exact hS.keep (hb12.block _ hS.lt)⟩
  have HTN := hide (nodes_all ok n (w.heap.size + 2) u e0 _ hO.wf (by
    have h := heap_alloc_new W1 (.cells #[u, .string e0] 57)
    rw [hs1] at h
    exact h) ((hn.keep hb12)))
  have hnd := hn.isNd
  have HNM := hide (nodes_made u e0 hnd W1)
  rw [hs1] at HNM
  have hMl := hS.lt
  have hokw : ∀ k, ok k → k < w.heap.size ∧ k ≠ M := fun k hk => ⟨(hA.blk k hk).1, (hok k hk).2⟩
  have HSub : Hid (∀ pre : List (Nd × Value), pre.map Prod.fst <+: n.nodesL → StOk (S ++ newE S (codesOf n (pre.map Prod.fst)))) := fun pre hp => told_ok hSo hO.cb hp
  have hsz2 : (W1.alloc (.cells #[u, .string e0] 57)).heap.size = w.heap.size + 3 := by simp [hs1]
  have HNu := hide hn
  clear hb2 hb12
  have HQ := hide (And.intro q1 q2)
  clear q1 q2 hb1 hA hTh hn hS hTl hTo
  unfold ptr at hW1 d0 ⊢
  subst hW1
  refine callsIn_of_wp_marks Tryz.func26 rfl trivial ?_ rfl
  simp only [Tryz.ntmps26, List.size_toArray, List.length_cons, List.length_nil, Nat.reduceAdd, Nat.reduceSub, Array.replicate_succ, Array.replicate_zero, List.push_toArray, List.append_toArray, List.nil_append, List.cons_append]
  gi_wp2_with fail
  refine ⟨trivial, (callsIn_wide.2 HNM.out).mono ?_⟩
  rintro e W2 ⟨rfl, hW2⟩
  rw [← hW2] at HI0 HTN hsz2
  have hww : w.heap.size ≤ W2.heap.size := by omega
  clear hW2 HNM cT0 cT1 cT2 d0
  gi_wp2_with fail
  refine rangeS (α := Nd × Value) (w := W2) rfl (by omega) (gf := 57) (lb := #[.pointer (some ⟨w.heap.size + 2, 0, none⟩)]) rfl trivial (fun _ _ => by kernel_rfl) (encs := encNode) (fun _ => rfl) (Fx := NsC ok n u) (Kp := KpC ok) (Done := fun xs => xs.map Prod.fst = n.nodesL) (fun pre z => (pre ++ [z]).map Prod.fst <+: n.nodesL)
    (fun pre A => CmI ok T M S w (newE S (codesOf n (pre.map Prod.fst))) A ∧ KpC ok W2 A) (fun _ _ _ => False)
    (fun pre A A' h ht => ⟨h.1.turn ht hww hMl, h.2.trans (KpC.of_turned ht)⟩) (fun c pre A A' h ht => h) (fun x A A' h ht => h.keep (KpC.of_turned ht)) (fun A A2 A3 A4 h1 h2 h3 => KpC.turn A A2 A3 A4 h1 h2 h3)
    (fun l3 J3 X3 W3 hl3 hT3 hJ3 hX3 hY3 hJ30 => HTN.out 8 l3 J3 X3 W3 hl3 (KpC.of_turned hT3) hJ3 hX3 (fun m' pre x W1 h1 h2 h3 => any_round (hY3 pre x W1 h1 h2 h3)) hJ30)
    ⟨HI0.out, KpC.refl _⟩
    (fun z a' _ => a' = { tmps := #[.pointer (some ⟨T, 0, none⟩), .pointer (some ⟨w.heap.size, 0, none⟩), .slice none 0 0, .pointer (some ⟨w.heap.size + 1, 0, none⟩), z.2, undef, undef, undef, .pointer (some ⟨T, 0, none⟩), .pointer (some ⟨T, 0, none⟩), .pointer (some ⟨T, 1, none⟩), .agg #[u, .string e0], .func (.func 57) #[] #[.pointer (some ⟨w.heap.size + 2, 0, none⟩)], z.2, undef, undef, undef, undef, undef, undef, undef, undef, undef, undef, undef, undef, undef, undef, undef, undef, undef, undef, undef, undef, undef, undef, undef, undef, undef, undef, undef, undef, undef, undef, undef], defers := [] })
    ?assign (fun z a' A A' h _ => h) ?body ?done ?stop
  case assign =>
    intro l4 pre z A K hi hz hK
    simp only [encNode]
    gi_wp2
    exact hK _ _ rfl hi hz (Pays.of_below (Below.refl _ _)) (Turned.of_below (Below.refl _ _))
  case body =>
    rintro l4 pre z a' A rfl ⟨i1, i2⟩ hz hpre _ _
    obtain ⟨m, v⟩ := z
    obtain ⟨hz1, hz2, hz3⟩ := hz
    dsimp only at hz1 hz2 hz3 ⊢
    have hmem : m ∈ n.nodesL := hpre.subset (by simp)
    have hCm := nodes_cb n hO.cb m hmem
    have hn0 : n ≠ .nil := fun e => by rw [e] at hmem; simp [Nd.nodesL] at hmem
    have hnA : NdAt HkC ok A n u := i1.kept.node n u HNu.out
    have HLe := hide (told_len (S := S) ((List.prefix_append _ _).trans (by rw [List.map_append] at hpre; exact hpre) : pre.map Prod.fst <+: n.nodesL))
    have HSo := hide (HSub.out pre ((List.prefix_append _ _).trans (by rw [List.map_append] at hpre; exact hpre)))
    obtain ⟨t, b, fid, rfl, hme, efid, hcode⟩ := node_code ok m v A hz2 hz1
    have HCd := hide (hcode A (i1.kept.tb hT (fun k hk => (hok k hk).1) hM) (fun k hk => ⟨(hok k hk).1, Nat.lt_of_lt_of_le (hokw k hk).1 i1.kept.size⟩) hCm hz2)
    unfold codePost at HCd
    have HI1 := hide i1
    clear i1
    gi_wp2_with fail
    refine ⟨trivial, (CallsIn.inRound l4 (callsIn_wide.2 HCd.out)).mono ?_⟩
    rintro e A3 ⟨rfl, hk3⟩
    have HI3 := hide (HI1.out.keepH hk3)
    obtain ⟨r, hr, hru⟩ := node_neq (hk3.node ok _ _ hz2) (hk3.node ok _ _ hnA) hz1 hn0
    obtain ⟨cT0, cT1, cT2⟩ := HC.out A3 HI3.out.kept
    have d1 : A3.cell? ⟨w.heap.size, 0, none⟩ = some (.pointer (some ⟨T, 0, none⟩)) := cell_of_row _ _ 0 _ _ (0, 0) HI3.out.tbox
    have hcs := code_size hCm
    have hkeep : keepsN n m = (!r || decide (32 ≤ m.code.size)) := by
      unfold keepsN
      congr 1
      cases hr' : r with
      | false =>
        have e := hru.1 hr'
        have h1 := NdAt.sz_eq m n _ hz2 (by rw [e]; exact hnA)
        simp; omega
      | true =>
        have h1 : m.sz < n.sz := by
          rcases hz3 with ⟨_, e⟩ | h
          · rw [hru.2 e] at hr'; cases hr'
          · exact h
        simp; omega
    have hsn : newE S (codesOf n ((pre ++ [(m, Value.iface t (ptr b))]).map Prod.fst)) = if keepsN n m = true then stepE S (newE S (codesOf n (pre.map Prod.fst))) m.code else newE S (codesOf n (pre.map Prod.fst)) := by
      rw [List.map_append]
      show newE S (codesOf n (_ ++ [m])) = _
      rw [codesOf_snoc]
      split
      · rw [newE_snoc]
      · rw [List.append_nil]
    have HSn := hide hsn
    have HKp := hide hkeep
    have HP3 : Hid (Pays W2.heap.size A A3) := Pays.of_keepH hk3
    have HK3 : Hid (KpC ok A A3) := KpC.of_keepH hk3
    have HI2 := hide (i2.trans HK3.out)
    have HT3 := hide (HI3.out.kept.tb hT (fun k hk => (hok k hk).1) hM)
    clear hsn hkeep hru hk3 hz2 hz3 hpre hmem hCm hnA hcode HCd HI1 i2
    generalize newE S (codesOf n (pre.map Prod.fst)) = L at *
    generalize m.code = c at *
    by_cases hskip : r = true ∧ c.size < 32
    · obtain ⟨rfl, hlt⟩ := hskip
      have hlt2 : (c.size : Int) < 32 := by omega
      have HE : Hid (keepsN n m = false) := by
        show _ = _
        rw [HKp.out]; simp; omega
      clear hlt
      gi_wp2
      refine ⟨HP3.out, HK3.out, ?_, HI2.out⟩
      rw [HSn.out, HE.out]
      exact HI3.out
    · have HE : Hid (keepsN n m = true) := by
        show _ = _
        rw [HKp.out]
        cases r with
        | false => rfl
        | true =>
          have : ¬ c.size < 32 := fun h => hskip ⟨rfl, h⟩
          simp; omega
      have hge : r = true → decide ((c.size : Int) < 32) = false := fun e => by
        have : ¬ c.size < 32 := fun h => hskip ⟨e, h⟩
        rw [decide_eq_false_iff_not]; omega
      clear hskip
      by_cases hh : hasN (S ++ L) (hashOf c) = true
      · have HOld := hide (keep_old M (S ++ L) c A3 HT3.out HI3.out.store HSo.out hcs hh)
        have HL : Hid (stepE S L c = L) := by show _ = _; unfold stepE; rw [if_pos hh]
        dsimp only [entV] at HOld
        clear hh
        have HFin : Hid (∀ A4, Below A3.heap.size A3 A4 → Pays W2.heap.size A A4 ∧ KpC ok A A4 ∧ CmI ok T M S w (newE S (codesOf n ((pre ++ [(m, Value.iface t (ptr b))]).map Prod.fst))) A4 ∧ KpC ok W2 A4) := fun A4 hb => by
          refine ⟨HP3.out.trans (Pays.of_below hb), HK3.out.trans (KpC.of_below hb), ?_, HI2.out.trans (KpC.of_below hb)⟩
          rw [HSn.out, HE.out, if_pos rfl, HL.out]
          exact HI3.out.below hb
        cases r with
        | false =>
          gi_wp2_with (refine wpListIn_skip rfl rfl ?_)
          refine ⟨trivial, (CallsIn.inRound l4 (callsIn_wide.2 HOld.out)).mono ?_⟩
          rintro e A4 ⟨rfl, hb4⟩
          have HB4 := hide hb4
          clear hb4
          gi_wp2
          exact HFin.out _ (HB4.out.trans ((below_alloc _ _).mono HB4.out.size))
        | true =>
          have hge2 := hge rfl
          gi_wp2_with fail
          refine ⟨trivial, (CallsIn.inRound l4 (callsIn_wide.2 HOld.out)).mono ?_⟩
          rintro e A4 ⟨rfl, hb4⟩
          have HB4 := hide hb4
          clear hb4
          gi_wp2
          exact HFin.out _ (HB4.out.trans ((below_alloc _ _).mono HB4.out.size))
      · have HNew := hide (keep_new M (S ++ L) c A3 HT3.out HI3.out.store hcs (Bool.eq_false_iff.2 hh))
        have HL : Hid (stepE S L c = L ++ [(hashOf c, c)]) := by show _ = _; unfold stepE; rw [if_neg hh]
        unfold KeptNew at HNew
        dsimp only [entV] at HNew
        clear hh
        generalize hashOf c = H at *
        obtain ⟨tv, hbox, hrow⟩ := HI3.out.told
        obtain ⟨t0, hti, hz0, hzz1, hzz2⟩ := info_parts infoEnt
        have HLay : Hid (∀ A4, A3.grownBy A4 (some M) → StoreAt A4 M (S ++ L ++ [(H, c)]) → ∃ g9 c9 w9, (Builtin.append_ #[43, 43] 43 #[tv, .slice (some ⟨A4.heap.size + 1, 0, none⟩) 1 1]).run Tryz.prog ((A4.alloc (.cells #[.string H, .string c] 48)).alloc (.cells #[.string H, .string c] 48)) = .ok (.slice (some ⟨g9, 0, none⟩) (L.length + 1) c9) w9 ∧
            w9.heap[w.heap.size + 1]? = some (.cells #[tv] 43 (0, 0)) ∧ (A4.alloc (.cells #[.string H, .string c] 48)).cell? ⟨w.heap.size + 1, 0, none⟩ = some tv ∧
            Pays W2.heap.size A (w9.setCell ⟨w.heap.size + 1, 0, none⟩ (.slice (some ⟨g9, 0, none⟩) (L.length + 1) c9)) ∧ KpC ok A (w9.setCell ⟨w.heap.size + 1, 0, none⟩ (.slice (some ⟨g9, 0, none⟩) (L.length + 1) c9)) ∧ CmI ok T M S w (newE S (codesOf n ((pre ++ [(m, Value.iface t (ptr b))]).map Prod.fst))) (w9.setCell ⟨w.heap.size + 1, 0, none⟩ (.slice (some ⟨g9, 0, none⟩) (L.length + 1) c9)) ∧ KpC ok W2 (w9.setCell ⟨w.heap.size + 1, 0, none⟩ (.slice (some ⟨g9, 0, none⟩) (L.length + 1) c9))) := fun A4 hg4 hst4 => by
          have hbl := (Array.getElem?_eq_some_iff.1 hbox).1
          have hbox4 := (hg4.block _ hbl (fun e => by injection e with e; omega)).trans hbox
          have hrow4 := own_far hrow (fun g e hlt => hg4.block g hlt (fun e' => by injection e' with e'; have := own_ge hrow (Nat.le_refl _) g e; omega))
          have hsz4 := hg4.size
          have hsz3 := HI3.out.kept.size
          have hw3 : w.heap.size + 3 ≤ A3.heap.size := by have := HI2.out.size; omega
          have hnw := heap_alloc_new (A4.alloc (.cells #[.string H, .string c] 48)) (.cells #[.string H, .string c] 48)
          rw [World.size_alloc] at hnw
          obtain ⟨g9, c9, w9, hr9, ho9, _, hg9, _, _⟩ := run_append_keeps (P := Tryz.prog) ((A4.alloc (.cells #[.string H, .string c] 48)).alloc (.cells #[.string H, .string c] 48)) (w.heap.size + 3) 43 43 48 t0 _ 2 32 Tryz.underlying43 hti hz0 hzz1 hzz2 rfl (by decide) tv L.length (pairCells L) ((hrow4.alloc _).alloc _) ⟨A4.heap.size + 1, 0, none⟩ 1 1 [.string H, .string c] rfl (World.news_of_block hnw) (by intro x hx; simp at hx; rcases hx with rfl | rfl <;> rfl) (by decide) (by have := HLe.out; unfold maxLen; omega) (by have := HLe.out; omega) (by simp; omega)
          obtain ⟨k1, k2, k3, k4⟩ := HI3.out.lay (B := W2.heap.size) hMl hokw hww hg4 hst4 hbox hrow ho9 hg9
          refine ⟨g9, c9, w9, hr9, k1, ?_, HP3.out.trans k4, HK3.out.trans k3, ?_, HI2.out.trans k3⟩
          · exact cell_of_row _ _ 0 _ _ (0, 0) ((Below.heap_alloc _ _ _ (by omega)).trans hbox4)
          · rw [HSn.out, HE.out, if_pos rfl, HL.out]
            exact k2
        clear hbox hrow hti hz0 hzz1 hzz2
        cases r with
        | false =>
          gi_wp2_with (refine wpListIn_skip rfl rfl ?_)
          refine ⟨trivial, (CallsIn.inRound l4 (callsIn_wide.2 HNew.out)).mono ?_⟩
          rintro e A4 ⟨rfl, hst4, hg4⟩
          obtain ⟨g9, c9, w9, hr9, hb9, d9, hfin⟩ := HLay.out A4 hg4 hst4
          have HR9 := hide hr9
          have HF9 := hide hfin
          have e9 : w9.cell? ⟨w.heap.size + 1, 0, none⟩ = some tv := cell_of_row _ _ 0 _ _ (0, 0) hb9
          have f9 : w9.frozen? ⟨w.heap.size + 1, 0, none⟩ = false := frozen_of_row _ _ 0 _ _ hb9
          clear hr9 hfin hb9 hst4 hg4
          gi_wp2_with (gi_at_builtin; refine wpListIn_append_run rfl _ _ 43 rfl _ _ _ _ rfl rfl HR9.out ?_)
          exact HF9.out
        | true =>
          have hge2 := hge rfl
          gi_wp2_with fail
          refine ⟨trivial, (CallsIn.inRound l4 (callsIn_wide.2 HNew.out)).mono ?_⟩
          rintro e A4 ⟨rfl, hst4, hg4⟩
          obtain ⟨g9, c9, w9, hr9, hb9, d9, hfin⟩ := HLay.out A4 hg4 hst4
          have HR9 := hide hr9
          have HF9 := hide hfin
          have e9 : w9.cell? ⟨w.heap.size + 1, 0, none⟩ = some tv := cell_of_row _ _ 0 _ _ (0, 0) hb9
          have f9 : w9.frozen? ⟨w.heap.size + 1, 0, none⟩ = false := frozen_of_row _ _ 0 _ _ hb9
          clear hr9 hfin hb9 hst4 hg4
          gi_wp2_with (gi_at_builtin; refine wpListIn_append_run rfl _ _ 43 rfl _ _ _ _ rfl rfl HR9.out ?_)
          exact HF9.out
  case done =>
    rintro D xs V hD hs ⟨hi, _⟩ hKd
    rw [hs] at hi
    have HLn : Hid ((newE S (codesOf n n.nodesL)).length ≤ 1000000) := Nat.le_trans (told_len (List.prefix_refl _)) hsz
    change CmI ok T M S w (toldOf S n) V at hi
    change Hid ((toldOf S n).length ≤ 1000000) at HLn
    obtain ⟨tv, hbox, hrow⟩ := hi.told
    have HSo := hide (sortE_any (w.heap.size + 3) tv (toldOf S n) V hrow HLn.out)
    unfold SortPost at HSo
    have HFin : Hid (∀ V2, V.grownBy V2 tv.ownBlock → V2.heap[w.heap.size + 1]? = some (.cells #[tv] 43 (0, 0)) ∧ V2.heap[D]? = some (.deferred (some [])) ∧ CmK ok M w (V2.putObj D (.deferred none)) ∧ StoreAt (V2.putObj D (.deferred none)) M (S ++ toldOf S n)) := fun V2 hg => by
      have hge : ∀ g, tv.ownBlock = some g → w.heap.size + 3 ≤ g := own_ge hrow (Nat.le_refl _)
      have hDl := (Array.getElem?_eq_some_iff.1 hKd).1
      have hDne : tv.ownBlock ≠ some D := fun e => by
        rcases hrow.2 with ⟨rfl, _⟩ | ⟨g', cap, cur, rfl, _, hh, _⟩
        · cases e
        · have e : g' = D := by simpa [Value.ownBlock] using e
          rw [e, hKd] at hh
          cases hh
      refine ⟨(hg.block _ (Array.getElem?_eq_some_iff.1 hbox).1 (fun e => by have := hge _ e.symm; omega)).trans hbox, (hg.block D hDl (fun e => hDne e.symm)).trans hKd, ?_, ?_⟩
      · have h1 := hi.kept.grown hg hokw (fun k e => .inr (by have := hge k e; omega))
        refine ⟨h1.os, h1.tape, h1.output, by simpa using h1.size, fun k hl ho hm => (World.putObj_heap_other (by omega)).trans (h1.far k hl ho hm), fun m x hx => NdAt.keepIn (fun k hk hlt => World.putObj_heap_other (by have := (hokw k hk).1; omega)) m x (h1.node m x hx)⟩
      · refine hi.store.keep ?_
        rw [World.putObj_heap_other (by omega)]
        exact hg.block M (Nat.lt_of_lt_of_le hMl hi.kept.size) (fun e => by have := hge M e.symm; omega)
    have HGe : Hid (∀ g, tv.ownBlock = some g → w.heap.size + 3 ≤ g) := own_ge hrow (Nat.le_refl _)
    have e9 : V.cell? ⟨w.heap.size + 1, 0, none⟩ = some tv := cell_of_row _ _ 0 _ _ (0, 0) hbox
    have HDl : Hid (D < V.heap.size) := (Array.getElem?_eq_some_iff.1 hKd).1
    clear hi hbox hrow hKd
    gi_wp2_with fail
    refine ⟨trivial, (callsIn_wide.2 HSo.out).mono ?_⟩
    rintro e V2 ⟨rfl, hg, L', hp, hr, ao, c, rfl, hprs, h0, hc, hsp⟩
    obtain ⟨k1, k2, k3, k4⟩ := HFin.out V2 hg
    have HK := hide (And.intro k2 (And.intro k3 k4))
    have HP := hide (And.intro hp (And.intro hr (And.intro hprs (And.intro h0 (And.intro hc hsp)))))
    have HG := hide hg
    have e10 : V2.cell? ⟨w.heap.size + 1, 0, none⟩ = some (.slice ao L'.length c) := cell_of_row _ _ 0 _ _ (0, 0) k1
    clear k1 k2 k3 k4 hp hr hprs h0 hc hsp hg e9
    gi_wp2
    obtain ⟨k2, k3, k4⟩ := HK.out
    obtain ⟨hp, hr, hprs, h0, hc, hsp⟩ := HP.out
    refine ⟨by simp, .inl ⟨_, _, rfl, run_takeDeferred k2, ?_⟩⟩
    refine ⟨_, (by simp [results, Tryz.results26, go_sem]), ao, c, L', rfl, hp, hr, fun i hi => ?_, h0, hc, fun a e => ⟨hsp a e, ?_⟩, k3, k4⟩
    · obtain ⟨g, o, e, c1, c2⟩ := hprs i hi
      have hgD : g ≠ D := fun e' => by
        obtain ⟨o', ho', hc'⟩ := cell_block c1
        have ho' : V2.heap[g]? = some o' := ho'
        rw [e', k2] at ho'
        injection ho' with ho'
        rw [← ho'] at hc'
        cases hc'
      exact ⟨g, o, e, (World.cell?_of_block (World.putObj_heap_other hgD)).trans c1, (World.cell?_of_block (World.putObj_heap_other hgD)).trans c2⟩
    · have := HGe.out a.block (by rw [e]; rfl)
      omega
  case stop =>
    rintro D c xs V hD hF hKd
    exact hF.elim
end Go.Proofs.YtgepjjebjhidiaaGreatDoor
namespace Go.Proofs.YtgepjjebjhidiaaGreatDoor
open Go.RowKit

/-- a tree over its store: its nodes lie from F on -/
structure Tr (F T M : Nat) (S : List Pr) (n : Nd) (ok : Nat → Prop) (W : World) : Prop where
  tree : TreeAt HkC ok W T (.map (some M)) n
  tok : TOk n
  ahead : ∀ k, ok k → F ≤ k
  store : StoreAt W M S
  tlt : T < F
  mlt : M < F
theorem Tr.keepH {F T M : Nat} {S : List Pr} {n : Nd} {ok ok2 : Nat → Prop} {W W' : World} (h : Tr F T M S n ok W) (hk : KeepH ok2 W W') : Tr F T M S n ok W' := by
  obtain ⟨u, h1, h2⟩ := h.tree.held
  refine ⟨⟨⟨u, hk.other _ _ h1 (fun cs t fr e => by injection e with _ e _; subst e; exact ⟨by decide, by decide⟩), hk.node _ _ _ h2⟩, fun k hk' => ⟨Nat.lt_of_lt_of_le (h.tree.blk k hk').1 hk.size, (h.tree.blk k hk').2⟩⟩, h.tok, h.ahead, ?_, h.tlt, h.mlt⟩
  obtain ⟨es, c, g1, g2⟩ := h.store.at'
  exact ⟨es, c, hk.other _ _ g1 (fun cs t fr e => by cases e), g2⟩
theorem Tr.keep {F T M : Nat} {S : List Pr} {n : Nd} {ok : Nat → Prop} {W W' : World} (h : Tr F T M S n ok W) (hb : Below W.heap.size W W') : Tr F T M S n ok W' := h.keepH (ok2 := fun _ => False) (KeepH.of_below hb)
theorem Tr.tm {F T M : Nat} {S : List Pr} {n : Nd} {ok : Nat → Prop} {W : World} (h : Tr F T M S n ok W) : T ≠ M := fun e => by
  obtain ⟨u, h1, _⟩ := h.tree.held
  obtain ⟨es, c, g1, _⟩ := h.store.at'
  rw [e, g1] at h1
  cases h1
theorem Tr.grown {F T M r : Nat} {S : List Pr} {n : Nd} {ok : Nat → Prop} {W W' : World} (h : Tr F T M S n ok W) (hg : W.grownBy W' (some r)) (hok : ∀ k, ok k → k ≠ r) (hT : T ≠ r) (hM : M ≠ r) : Tr F T M S n ok W' := by
  obtain ⟨u, h1, h2⟩ := h.tree.held
  have hk : ∀ k, k < W.heap.size → k ≠ r → W'.heap[k]? = W.heap[k]? := fun k hl hn => hg.block k hl (fun e => hn (by injection e))
  exact ⟨⟨⟨u, (hk T h.tree.lt hT).trans h1, NdAt.keepIn (fun k hk' hl => hk k hl (hok k hk')) _ _ h2⟩, fun k hk' => ⟨Nat.lt_of_lt_of_le (h.tree.blk k hk').1 hg.size, (h.tree.blk k hk').2⟩⟩, h.tok, h.ahead, h.store.keep (hk M h.store.lt hM), h.tlt, h.mlt⟩
theorem Tr.put {F T M : Nat} {S : List Pr} {n n' : Nd} {ok : Nat → Prop} {W W' : World} {e : Ending} (h : Tr F T M S n ok W) (hc : ChPost HkC ok T (.map (some M)) n' W e W') (ho : TOk n') (hF : F ≤ W.heap.size) : e = .returned (.int .i64 0) ∧ Only T W W' ∧ Tr F T M S n' (okTo ok W W') W' := by
  obtain ⟨h1, h2, h3⟩ := hc
  refine ⟨h1, h2, h3, ho, fun k hk => ?_, h.store.keep (h2.block M h.store.lt (fun e => h.tm (by injection e with e; exact e.symm))), h.tlt, h.mlt⟩
  rcases hk with hk | ⟨hk, _⟩
  · exact h.ahead k hk
  · omega
theorem Tr.cm {F T M M2 : Nat} {S : List Pr} {n : Nd} {ok ok2 : Nat → Prop} {W W' : World} (h : Tr F T M S n ok W) (hk : CmK ok2 M2 W W') (hd : ∀ k, ok k → ¬ ok2 k ∧ k ≠ M2) (hT : ¬ ok2 T ∧ T ≠ M2) (hM : ¬ ok2 M ∧ M ≠ M2) : Tr F T M S n ok W' := by
  obtain ⟨u, h1, h2⟩ := h.tree.held
  exact ⟨⟨⟨u, (hk.far T h.tree.lt hT.1 hT.2).trans h1, NdAt.keepIn (fun k hk' hl => hk.far k hl (hd k hk').1 (hd k hk').2) _ _ h2⟩, fun k hk' => ⟨Nat.lt_of_lt_of_le (h.tree.blk k hk').1 hk.size, (h.tree.blk k hk').2⟩⟩, h.tok, h.ahead, h.store.keep (hk.far M h.store.lt hM.1 hM.2), h.tlt, h.mlt⟩
theorem Tr.own {F T M : Nat} {S S' : List Pr} {n : Nd} {ok : Nat → Prop} {W W' : World} (h : Tr F T M S n ok W) (hk : CmK ok M W W') (hs : StoreAt W' M S') : Tr F T M S' n ok W' := by
  obtain ⟨u, h1, h2⟩ := h.tree.held
  exact ⟨⟨⟨u, (hk.far T h.tree.lt (fun e => (h.tree.blk T e).2 rfl) h.tm).trans h1, hk.node _ _ h2⟩, fun k hk' => ⟨Nat.lt_of_lt_of_le (h.tree.blk k hk').1 hk.size, (h.tree.blk k hk').2⟩⟩, h.tok, h.ahead, hs, h.tlt, h.mlt⟩
/-- a tree that is new -/
theorem Tr.start {w W : World} {T M F : Nat} (h1 : w.heap.size ≤ M ∧ M < W.heap.size ∧ w.heap.size ≤ T ∧ T ≠ M ∧ W.heap[M]? = some (.map #[] 0) ∧ TreeAt HkC (fun _ => False) W T (.map (some M)) .nil ∧ Below w.heap.size w W) (hF : W.heap.size ≤ F) : Tr F T M [] .nil (fun _ => False) W := by
  obtain ⟨_, h2, _, _, h5, h6, _⟩ := h1
  exact ⟨h6, TOk.nil, fun k hk => hk.elim, ⟨_, _, h5, rfl⟩, Nat.lt_of_lt_of_le h6.lt hF, Nat.lt_of_lt_of_le h2 hF⟩
/-- a row of pairs in memory, from B on -/
structure RowAt (B : Nat) (W : World) (v : Value) (m : List Pr) : Prop where
  form : ∃ ao cap, v = .slice ao m.length cap ∧ (∀ a, ao = some a → a.spot = none ∧ B ≤ a.block ∧ ∃ cur, W.heap[a.block]? = some (.cells cur 32 (0, 0))) ∧ (ao = none → cap = 0) ∧ m.length ≤ cap ∧ Prs W ao m
theorem RowAt.own {B B' : Nat} {W : World} {v : Value} {m : List Pr} (h : W.ownsRow B' 32 2 v m.length (pairCells m)) (hB : B ≤ B') : RowAt B W v m := by
  obtain ⟨ao, cap, rfl, h2, h3, h4⟩ := own_slice h
  refine ⟨ao, cap, rfl, fun a e => ⟨h2 a e, ?_⟩, h3, h4, Prs.own h⟩
  rcases h.2 with ⟨hh, _⟩ | ⟨g, c, cur, hh, hb, hg, _⟩
  · injection hh with hh _ _; rw [e] at hh; cases hh
  · injection hh with hh _ _
    rw [e] at hh
    injection hh with hh
    rw [hh]
    exact ⟨by show B ≤ g; omega, cur, hg⟩
theorem RowAt.nil (B : Nat) (W : World) : RowAt B W (.slice none 0 0) [] := ⟨none, 0, rfl, (fun a e => by cases e), fun _ => rfl, Nat.le_refl _, fun i hi => by simp at hi⟩
theorem RowAt.same {B : Nat} {W W' : World} {v : Value} {m : List Pr} (h : RowAt B W v m) (hk : ∀ a n c, v = .slice (some a) n c → a.block < W.heap.size → W'.heap[a.block]? = W.heap[a.block]?) : RowAt B W' v m := by
  obtain ⟨ao, cap, h1, h2, h3, h4, h5⟩ := h.form
  have hb : ∀ a, ao = some a → W'.heap[a.block]? = W.heap[a.block]? := fun a e => by
    obtain ⟨_, _, cur, hc⟩ := h2 a e
    exact hk a _ _ (by rw [h1, e]) (Array.getElem?_eq_some_iff.1 hc).1
  refine ⟨ao, cap, h1, fun a e => ?_, h3, h4, fun i hi => ?_⟩
  · obtain ⟨k1, k2, cur, hc⟩ := h2 a e
    exact ⟨k1, k2, cur, (hb a e).trans hc⟩
  · obtain ⟨g, o, e, c1, c2⟩ := h5 i hi
    have hg : W'.heap[g]? = W.heap[g]? := hb _ e
    exact ⟨g, o, e, (World.cell?_of_block (a := ⟨g, o + i * 2, none⟩) hg).trans c1, (World.cell?_of_block (a := ⟨g, o + i * 2 + 1, none⟩) hg).trans c2⟩
theorem RowAt.keep {B : Nat} {W W' : World} {v : Value} {m : List Pr} (h : RowAt B W v m) (hb : Below W.heap.size W W') : RowAt B W' v m := h.same (fun a _ _ _ hl => hb.block a.block hl)
theorem RowAt.only {B T : Nat} {W W' : World} {v : Value} {m : List Pr} (h : RowAt B W v m) (ho : Only T W W') (hT : T < B) : RowAt B W' v m := by
  obtain ⟨ao, cap, h1, h2, _⟩ := h.form
  refine h.same (fun a n c e hl => ho.block a.block hl (fun e' => ?_))
  have ha : ao = some a := by rw [h1] at e; injection e
  have := (h2 a ha).2.1
  injection e' with e'
  omega
theorem cell_set {W : World} {g j : Nat} {cur : Array Value} {t : TypeId} (h : W.heap[g]? = some (.cells cur t (0, 0))) {x : Value} (hx : ∃ y, W.cell? ⟨g, j, none⟩ = some y) : (W.setCell ⟨g, j, none⟩ x).cell? ⟨g, j, none⟩ = some x := by
  obtain ⟨y, hy⟩ := hx
  have hj : j < cur.size := by
    have := hy
    simp [World.cell?, h] at this
    exact (Array.getElem?_eq_some_iff.1 this).1
  have h1 := heap_setCell_same W g j cur t x h
  refine cell_of_row _ _ _ _ _ (0, 0) h1 |>.trans ?_
  simp [hj]
/-- a row with another pair at one place -/
theorem RowAt.set2 {B g o cap : Nat} {W : World} {m : List Pr} (h : RowAt B W (.slice (some ⟨g, o, none⟩) m.length cap) m) {k : Nat} (hk : k < m.length) (p : Pr) :
    RowAt B ((W.setCell ⟨g, o + k * 2, none⟩ (.string p.1)).setCell ⟨g, o + k * 2 + 1, none⟩ (.string p.2)) (.slice (some ⟨g, o, none⟩) m.length cap) (m.set k p) := by
  obtain ⟨ao, cap', h1, h2, h3, h4, h5⟩ := h.form
  obtain ⟨rfl, _, rfl⟩ : some ⟨g, o, none⟩ = ao ∧ m.length = m.length ∧ cap = cap' := by simpa using h1
  obtain ⟨_, hB, cur, hc⟩ := h2 _ rfl
  have hc : W.heap[g]? = some (.cells cur 32 (0, 0)) := hc
  have hc1 := heap_setCell_same W g (o + k * 2) cur 32 (.string p.1) hc
  have hc2 := heap_setCell_same _ g (o + k * 2 + 1) _ 32 (.string p.2) hc1
  obtain ⟨g0, o0, e0', x1, x2⟩ := h5 k hk
  obtain ⟨rfl, rfl⟩ : g = g0 ∧ o = o0 := by simpa using e0'
  refine ⟨some ⟨g, o, none⟩, cap, by rw [List.length_set], fun a e => ?_, h3, by rw [List.length_set]; exact h4, fun i hi => ?_⟩
  · injection e with e
    rw [← e]
    exact ⟨rfl, hB, _, hc2⟩
  · rw [List.length_set] at hi
    obtain ⟨g1, o1, e1, y1, y2⟩ := h5 i hi
    obtain ⟨rfl, rfl⟩ : g = g1 ∧ o = o1 := by simpa using e1
    by_cases e : i = k
    · subst e
      have eg : (m.set i p).getD i pr0 = p := by simp [List.getD_eq_getElem?_getD, hk]
      rw [eg]
      refine ⟨g, o, rfl, ?_, ?_⟩
      · rw [cell_other (fun _ e => by omega)]
        exact cell_set hc ⟨_, x1⟩
      · exact cell_set hc1 ⟨_, by rw [cell_other (fun _ e => by omega)]; exact x2⟩
    · have eg : (m.set k p).getD i pr0 = m.getD i pr0 := by
        rw [List.getD_eq_getElem?_getD, List.getD_eq_getElem?_getD, List.getElem?_set_ne (fun e' => e e'.symm)]
      rw [eg]
      refine ⟨g, o, rfl, ?_, ?_⟩
      · rw [cell_other (fun _ e' => by omega), cell_other (fun _ e' => by omega)]
        exact y1
      · rw [cell_other (fun _ e' => by omega), cell_other (fun _ e' => by omega)]
        exact y2
theorem grown_set2 (W : World) (g a b : Nat) (x y : Value) : W.grownBy ((W.setCell ⟨g, a, none⟩ x).setCell ⟨g, b, none⟩ y) (some g) :=
  ⟨rfl, rfl, rfl, by simp [World.setCell], fun k _ hn => by
    have hne : k ≠ g := fun e => hn (by rw [e])
    rw [Below.heap_setCell _ _ _ _ (fun e => hne e), Below.heap_setCell _ _ _ _ (fun e => hne e)]⟩
theorem CmK.all {ok : Nat → Prop} {M B : Nat} {w W W' : World} (hb : Below w.heap.size w W) (h : CmK ok M W W') (hok : ∀ k, ok k → B ≤ k) (hM : w.heap.size ≤ M) (hB : w.heap.size ≤ B) : Below w.heap.size w W' :=
  ⟨h.os.trans hb.os, h.tape.trans hb.tape, h.output.trans hb.output, Nat.le_trans hb.size h.size, fun k hk => (h.far k (Nat.lt_of_lt_of_le hk hb.size) (fun e => by have := hok k e; omega) (by omega)).trans (hb.block k hk)⟩
theorem KeepH.all {ok : Nat → Prop} {B : Nat} {w W W' : World} (hb : Below w.heap.size w W) (h : KeepH ok W W') (hok : ∀ k, ok k → B ≤ k) (hB : w.heap.size ≤ B) : Below w.heap.size w W' :=
  ⟨h.os.trans hb.os, h.tape.trans hb.tape, h.output.trans hb.output, Nat.le_trans hb.size h.size, fun k hk => (h.far k (Nat.lt_of_lt_of_le hk hb.size) (fun e => by have := hok k e; omega)).trans (hb.block k hk)⟩
end Go.Proofs.YtgepjjebjhidiaaGreatDoor
namespace Go.Proofs.YtgepjjebjhidiaaGreatDoor
open Go.RowKit
attribute [local go_sem ↓] Go.wp_at_zero Go.wp_at_succ

set_option maxHeartbeats 1000000 in
set_option maxRecDepth 20000 in
theorem cCommit_any (ok : Nat → Prop) (T M : Nat) (S : List Pr) (n : Nd) (w : World) (hA : TreeAt HkC ok w T (.map (some M)) n) (hO : TOk n) (hT : TbZ w) (hok : ∀ k, ok k → 3 ≤ k ∧ k ≠ M) (hM : 3 ≤ M) (hS : StoreAt w M S) (hSo : StOk S) (hsz : n.sz ≤ 1000000) :
    Calls Tryz.prog 17 #[ptr T] w fun e w' => CommitPost ok M S n w e w' := by
  have HP := hide (tCommit_any ok T M S n w hA hO hT hok hM hS hSo hsz)
  clear hA hO hT hok hS hSo
  unfold ptr at *
  go_enter Tryz.func17, Tryz.ntmps17
  go_wp2_with fail
  refine HP.out.mono ?_
  rintro e w5 ⟨ao, c, L, rfl, h1⟩
  have HX := hide h1
  clear h1
  go_wp2
  go_ret
  exact ⟨ao, c, L, rfl, HX.out⟩
set_option maxHeartbeats 1000000 in
theorem hashZ_any (s : ByteArray) (w : World) (hT : TbZ w) (hs : s.size ≤ 9223372036854775000) : Calls Tryz.prog 19 #[.string s] w fun e w' => e = .returned (.string (hashOf s)) ∧ Below w.heap.size w w' := by
  have HS := hide (sumZ_any s w hT hs)
  clear hT
  go_enter Tryz.func19, Tryz.ntmps19
  go_wp2_with fail
  refine HS.out.mono ?_
  rintro e w1 ⟨rfl, hb1⟩
  have HB := hide hb1
  clear hb1
  go_wp2
  go_ret
  exact ⟨rfl, HB.out⟩
set_option maxHeartbeats 1000000 in
/-- pick: one of n -/
theorem pick_any (c : Int) (n : Nat) (w : World) (h1 : -9223372036854775808 ≤ c) (h2 : c ≤ 9223372036854775807) (hn : 0 < n) (hn2 : n ≤ 1000000) :
    Calls Tryz.prog 14 #[.int .i64 c, .int .i64 (n : Int)] w fun e w' => ∃ k : Nat, k < n ∧ e = .returned (.int .i64 (k : Int)) ∧ w' = w := by
  have hn0 : ((n : Int) == 0) = false := by simp; omega
  by_cases hc : c < 0
  · obtain ⟨d, hd⟩ : ∃ d : Nat, -(c + 1) = (d : Int) := ⟨(-(c + 1)).toNat, by omega⟩
    have e1 : IntKind.i64.wrap (c + 1) = c + 1 := by simp [IntKind.wrap, IntKind.bits, IntKind.signed]; omega
    have e2 : IntKind.i64.wrap (-(c + 1)) = (d : Int) := by rw [hd]; simp [IntKind.wrap, IntKind.bits, IntKind.signed]; omega
    go_enter Tryz.func14, Tryz.ntmps14
    go_wp2
    go_ret
    exact ⟨d % n, Nat.mod_lt _ hn, by simp, rfl⟩
  · obtain ⟨d, rfl⟩ : ∃ d : Nat, c = (d : Int) := ⟨c.toNat, by omega⟩
    have h0 : (0 : Int) ≤ (d : Int) := by omega
    clear hc
    go_enter Tryz.func14, Tryz.ntmps14
    go_wp2
    go_ret
    exact ⟨d % n, Nat.mod_lt _ hn, by simp, rfl⟩
set_option maxHeartbeats 1000000 in
set_option maxRecDepth 20000 in
theorem sameEntries_any (ao bo : Option Addr) (ca cb : Nat) (L : List Pr) (w : World) (ha : Prs w ao L) (hb : Prs w bo L) (hl : L.length ≤ 1000000) :
    Calls Tryz.prog 18 #[.slice ao L.length ca, .slice bo L.length cb] w fun e w' => e = .returned (.bool true) ∧ Below w.heap.size w w' := by
  have HA := hide ha
  have HB := hide hb
  clear ha hb
  go_enter Tryz.func18, Tryz.ntmps18
  go_wp2_with fail
  go_loopw [5] (fun iv wr => ∃ i : Nat, i ≤ L.length ∧ iv = .int .i64 (i : Int) ∧ Below w.heap.size w wr) (fun iv _ => L.length - (intOf iv).toNat)
  case atStart => exact ⟨0, by omega, rfl, Below.refl _ _⟩
  case round =>
    obtain ⟨i, hi, rfl, hbw⟩ := hrel
    have HBW := hide hbw
    clear hbw
    have j0 : (0 : Int) ≤ (i : Int) := by omega
    by_cases hil : i < L.length
    · have j1 : (i : Int) < (L.length : Int) := by omega
      obtain ⟨g1, o1, rfl, x1, x2⟩ := HA.out.keep HBW.out i hil
      obtain ⟨g2, o2, rfl, y1, y2⟩ := HB.out.keep HBW.out i hil
      generalize L.getD i pr0 = t at *
      go_wp2
      go_quiet (fail)
      go_wp2
      go_roundw
      case rel => exact ⟨i + 1, by omega, by go_num, below_drewN HBW.out _⟩
      case measure => simp [intOf]; omega
    · obtain rfl : i = L.length := by omega
      go_wp2
      go_ret
      exact ⟨rfl, HBW.out⟩
end Go.Proofs.YtgepjjebjhidiaaGreatDoor
namespace Go.Proofs.YtgepjjebjhidiaaGreatDoor
open Go.RowKit

/-- the trees' and stores' blocks -/
structure Ds (w : World) (B T M T2 M2 : Nat) : Prop where
  t : w.heap.size ≤ T ∧ T < B
  m : w.heap.size ≤ M ∧ M < B
  t2 : w.heap.size ≤ T2 ∧ T2 < B
  m2 : w.heap.size ≤ M2 ∧ M2 < B
  tt : T ≠ T2
  tm : T ≠ M2
  mt : M ≠ T2
  mm : M ≠ M2
/-- a row's block is none of these -/
def Apt (ok : Nat → Prop) (v : Value) : Prop := ∀ a n c, v = .slice (some a) n c → ∀ k, ok k → k ≠ a.block
/-- the first loop: x grows -/
structure OO (w : World) (B T M T2 M2 : Nat) (l : List Pr) (lv : Value) (n : Nd) (m : List Pr) (mv : Value) (W : World) : Prop where
  bel : Below w.heap.size w W
  size : B ≤ W.heap.size
  x : ∃ ok, Tr B T M [] n ok W ∧ Apt ok mv
  y : Tr B T2 M2 [] .nil (fun _ => False) W
  row : RowAt B W mv m
  put : RowAt B W lv l
theorem OO.keep {w : World} {B T M T2 M2 : Nat} {l : List Pr} {lv : Value} {n : Nd} {m : List Pr} {mv : Value} {W W' : World} (h : OO w B T M T2 M2 l lv n m mv W) (hb : Below W.heap.size W W') : OO w B T M T2 M2 l lv n m mv W' := by
  obtain ⟨ok, h1, h2⟩ := h.x
  exact ⟨h.bel.trans (hb.mono h.bel.size), Nat.le_trans h.size hb.size, ⟨ok, h1.keep hb, h2⟩, h.y.keep hb, h.row.keep hb, h.put.keep hb⟩
theorem OO.change {w : World} {B T M T2 M2 : Nat} {l : List Pr} {lv : Value} {n n' : Nd} {m : List Pr} {mv : Value} {W W' : World} {ok : Nat → Prop} {e : Ending} (D : Ds w B T M T2 M2) (h : OO w B T M T2 M2 l lv n m mv W) (hx : Tr B T M [] n ok W) (ha : Apt ok mv) (hc : ChPost HkC ok T (.map (some M)) n' W e W') (ho : TOk n') :
    e = .returned (.int .i64 0) ∧ OO w B T M T2 M2 l lv n' m mv W' := by
  obtain ⟨h1, h2, h3⟩ := hx.put hc ho h.size
  refine ⟨h1, h.bel.grown h2 h.bel.size (fun r e => by injection e with e; rw [← e]; exact D.t.1), Nat.le_trans h.size h2.size, ⟨_, h3, fun a nn c e k hk => ?_⟩, h.y.grown h2 (fun k hk => hk.elim) (fun e => D.tt e.symm) (fun e => D.tm e.symm), h.row.only h2 D.t.2, h.put.only h2 D.t.2⟩
  rcases hk with hk | ⟨hk, _⟩
  · exact ha a nn c e k hk
  · obtain ⟨ao, cap, e1, e2, _⟩ := h.row.form
    rw [e1] at e
    injection e with e
    obtain ⟨_, _, cur, hcur⟩ := e2 a e
    have := (Array.getElem?_eq_some_iff.1 hcur).1
    omega
theorem OO.laid {w : World} {B T M T2 M2 : Nat} {l : List Pr} {lv : Value} {n : Nd} {m m' : List Pr} {mv v : Value} {W W' : World} (h : OO w B T M T2 M2 l lv n m mv W) (ho : W'.ownsRow W.heap.size 32 2 v m'.length (pairCells m')) (hb : Below W.heap.size W W') : OO w B T M T2 M2 l lv n m' v W' := by
  have h2 := h.keep hb
  obtain ⟨ok, h3, _⟩ := h.x
  refine ⟨h2.bel, h2.size, ⟨ok, h3.keep hb, fun a nn c e k hk => ?_⟩, h2.y, RowAt.own ho h.size, h2.put⟩
  have h4 := own_ge ho (Nat.le_refl _) a.block (by rw [e]; rfl)
  have := (h3.tree.blk k hk).1
  omega
/-- the later loops: x stays, y changes -/
structure OS (w : World) (B B1 T M T2 M2 : Nat) (okx : Nat → Prop) (nx ny : Nd) (m : List Pr) (mv : Value) (W : World) : Prop where
  bel : Below w.heap.size w W
  size : B1 ≤ W.heap.size
  x : Tr B T M [] nx okx W
  xlt : ∀ k, okx k → k < B1
  y : ∃ oky, Tr B1 T2 M2 [] ny oky W
  row : RowAt B W mv m
  apt : Apt okx mv
  rlt : ∀ a n c, mv = .slice (some a) n c → a.block < B1
theorem OO.next {w : World} {B T M T2 M2 : Nat} {l : List Pr} {lv : Value} {n : Nd} {m : List Pr} {mv : Value} {W : World} (h : OO w B T M T2 M2 l lv n m mv W) : ∃ okx, OS w B W.heap.size T M T2 M2 okx n .nil m mv W := by
  obtain ⟨ok, h1, h2⟩ := h.x
  refine ⟨ok, h.bel, Nat.le_refl _, h1, fun k hk => (h1.tree.blk k hk).1, ⟨_, h.y.tree, h.y.tok, fun k hk => hk.elim, h.y.store, Nat.lt_of_lt_of_le h.y.tlt h.size, Nat.lt_of_lt_of_le h.y.mlt h.size⟩, h.row, h2, fun a nn c e => ?_⟩
  obtain ⟨ao, cap, e1, e2, _⟩ := h.row.form
  rw [e1] at e
  injection e with e
  obtain ⟨_, _, cur, hcur⟩ := e2 a e
  exact (Array.getElem?_eq_some_iff.1 hcur).1
theorem OS.keep {w : World} {B B1 T M T2 M2 : Nat} {okx : Nat → Prop} {nx ny : Nd} {m : List Pr} {mv : Value} {W W' : World} (h : OS w B B1 T M T2 M2 okx nx ny m mv W) (hb : Below W.heap.size W W') : OS w B B1 T M T2 M2 okx nx ny m mv W' := by
  obtain ⟨ok, h1⟩ := h.y
  exact ⟨h.bel.trans (hb.mono h.bel.size), Nat.le_trans h.size hb.size, h.x.keep hb, h.xlt, ⟨ok, h1.keep hb⟩, h.row.keep hb, h.apt, h.rlt⟩
theorem OS.change {w : World} {B B1 T M T2 M2 : Nat} {okx oky : Nat → Prop} {nx ny ny' : Nd} {m : List Pr} {mv : Value} {W W' : World} {e : Ending} (D : Ds w B T M T2 M2) (h : OS w B B1 T M T2 M2 okx nx ny m mv W) (hy : Tr B1 T2 M2 [] ny oky W) (hc : ChPost HkC oky T2 (.map (some M2)) ny' W e W') (ho : TOk ny') :
    e = .returned (.int .i64 0) ∧ OS w B B1 T M T2 M2 okx nx ny' m mv W' := by
  obtain ⟨h1, h2, h3⟩ := hy.put hc ho h.size
  exact ⟨h1, h.bel.grown h2 h.bel.size (fun r e => by injection e with e; rw [← e]; exact D.t2.1), Nat.le_trans h.size h2.size, h.x.grown h2 (fun k hk => by have := h.x.ahead k hk; have := D.t2.2; omega) D.tt D.mt, h.xlt, ⟨_, h3⟩, h.row.only h2 D.t2.2, h.apt, h.rlt⟩
theorem OS.set2 {w : World} {B B1 T M T2 M2 g o cap : Nat} {okx : Nat → Prop} {nx ny : Nd} {m : List Pr} {W : World} (D : Ds w B T M T2 M2) (hB : w.heap.size ≤ B) (h : OS w B B1 T M T2 M2 okx nx ny m (.slice (some ⟨g, o, none⟩) m.length cap) W) {k : Nat} (hk : k < m.length) (p : Pr) :
    OS w B B1 T M T2 M2 okx nx ny (m.set k p) (.slice (some ⟨g, o, none⟩) m.length cap) ((W.setCell ⟨g, o + k * 2, none⟩ (.string p.1)).setCell ⟨g, o + k * 2 + 1, none⟩ (.string p.2)) := by
  have hg := grown_set2 W g (o + k * 2) (o + k * 2 + 1) (.string p.1) (.string p.2)
  obtain ⟨oky, hy⟩ := h.y
  obtain ⟨ao, cap', e1, e2, _⟩ := h.row.form
  obtain ⟨rfl, _, _⟩ : some ⟨g, o, none⟩ = ao ∧ m.length = m.length ∧ cap = cap' := by simpa using e1
  have hgB : B ≤ g := (e2 _ rfl).2.1
  have hgl : g < B1 := h.rlt ⟨g, o, none⟩ _ _ rfl
  have h1 := D.t.2
  have h2 := D.m.2
  have h3 := D.t2.2
  have h4 := D.m2.2
  exact ⟨h.bel.grown hg h.bel.size (fun r e => by injection e with e; omega), by have := hg.size; have := h.size; omega, h.x.grown hg (fun k hk => h.apt ⟨g, o, none⟩ _ _ rfl k hk) (by omega) (by omega), h.xlt, ⟨oky, hy.grown hg (fun k hk => by have := hy.ahead k hk; omega) (by omega) (by omega)⟩, h.row.set2 hk p, h.apt, h.rlt⟩
theorem Sup.setAll (P : ByteArray → Prop) : ∀ (ps : List Pr) (n : Nd), TOk n → Sup n P → (∀ p ∈ ps, P p.1 ∧ p.1.size ≤ 64 ∧ p.2.size ≤ 400) → Sup (setAll n ps) P
  | [], _, _, h, _ => h
  | p :: ps, n, ho, h, hp => by
    obtain ⟨h1, h2, h3⟩ := hp p (List.mem_cons_self ..)
    exact Sup.setAll P ps _ (ho.set (pathN_lt _) (by rw [pathN_length]; omega) h3) (h.set ho.wf p.1 p.2 (fun _ h => h) h1) (fun q hq => hp q (List.mem_cons_of_mem _ hq))
end Go.Proofs.YtgepjjebjhidiaaGreatDoor
