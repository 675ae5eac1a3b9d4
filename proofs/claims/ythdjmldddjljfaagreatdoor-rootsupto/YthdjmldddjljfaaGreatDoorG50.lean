/-
  OUR OWN: RoB.
-/
import Derived.Test.YthdjmldddjljfaaGreatDoorG49
namespace Go.Proofs.YthdjmldddjljfaaGreatDoor
open Go.RowKit
attribute [local go_sem ↓] Go.wp_at_zero Go.wp_at_succ

set_option maxHeartbeats 8000000 in
set_option maxRecDepth 20000 in
theorem roots_walk (ao : Option Addr) (cap : Nat) (ps : List Pr) (w : World) (hT : Tabs w) (h2 : 2 ≤ w.heap.size) (hp : Prs w ao ps) (hl : ps.length ≤ 10000000) :
    Calls Tryz.prog 4 #[.slice ao ps.length cap] w fun e w' => e = .returned (.bool true) ∧ Below w.heap.size w w' := by
  obtain ⟨i0, hi0, hz0, hz1, hz2⟩ := info_parts infoPr
  have HT := hide hT
  have HPs0 := hide hp
  have HKn := hide (known_any w hT h2)
  have HN := hide (fun W => cNew_none HkC W)
  clear hT hp
  go_enter Tryz.func4, Tryz.ntmps4
  go_wp2_with fail
  refine HKn.out.mono ?_
  rintro e w1 ⟨rfl, hb1, hs1⟩
  have HB1 := hide hb1
  have HTb : Hid (TbZ w1) := ⟨HT.out.keepB (by omega) (by omega) hb1, by omega⟩
  have HPs : Hid (Prs w1 ao ps) := HPs0.out.keep hb1
  clear hb1 hs1 HPs0 HT
  go_wp2_with fail
  refine (HN.out w1).mono ?_
  rintro e w2 ⟨T, M, rfl, _, _, h3, _, _, h6, hb2⟩
  have HSt : Hid (RoSt w1 w2 T (.map (some M)) (.slice none 0 0) .nil []) := ⟨RelM.nil, TOk.nil, ⟨_, w2.heap.size, h6, fun k hk => hk.elim, hb2.size, Nat.le_refl _, World.ownsRow_nil _ _ _ _⟩, hb2, h3⟩
  clear h3 h6 hb2 HKn HN
  unfold ptr
  go_wp2_with fail
  go_loopw [6, 7] (fun mv iv wr => ∃ (i : Nat) (m : List Pr) (n : Nd) (ma : Option Addr) (mc : Nat), i ≤ ps.length ∧ iv = .int .i64 (i : Int) ∧ mv = .slice ma m.length mc ∧ m.length ≤ i ∧ RoSt w1 wr T (.map (some M)) (.slice ma m.length mc) n m) (fun _ iv _ => ps.length - (intOf iv).toNat)
  case atStart => exact ⟨0, [], .nil, none, 0, by omega, rfl, rfl, by simp, HSt.out⟩
  case round =>
    obtain ⟨i, m, n, ma, mc, hi, rfl, rfl, hml, hst⟩ := hrel
    have HS := hide hst
    clear hst
    have j0 : (0 : Int) ≤ (i : Int) := by omega
    by_cases hil : i < ps.length
    · have j1 : (i : Int) < (ps.length : Int) := by omega
      obtain ⟨g, o, rfl, x0, x1⟩ := HPs.out.keep HS.out.bel i hil
      generalize ps.getD i pr0 = q at *
      obtain ⟨k, v⟩ := q
      dsimp only at x0 x1
      have HB8 := hide (two_boxes wr #[.string k, .string v] #[.string k, .string v] 33 33)
      have HPr : Hid (Prs ((wr.alloc (.cells #[.string k, .string v] 33)).alloc (.cells #[.string k, .string v] 33)) (some ⟨wr.heap.size + 1, 0, none⟩) [(k, v)]) := by
        have h := prs_new (wr.alloc (.cells #[.string k, .string v] 33)) k v
        rwa [World.size_alloc] at h
      have HS2 := hide (HS.out.keep HB8.out.2.2)
      by_cases hfit : k.size ≤ 64 ∧ v.size ≤ 400
      · have k1 : (k.size : Int) ≤ 64 := by omega
        have v1 : (v.size : Int) ≤ 400 := by omega
        obtain ⟨ok, base, ht, hok, -, -, -⟩ := HS2.out.tree
        have HPut := hide (cPut_any HkC HkC.ne ok T (.map (some M)) n (some ⟨wr.heap.size + 1, 0, none⟩) 1 [(k, v)] _ ht HS2.out.tok HPr.out (by intro p hp; simp at hp; rw [hp]; exact hfit) (by simp))
        have HTo := hide (And.intro ht (fun j hj => (hok j hj).1))
        have HF := hide hfit
        clear ht hok hfit
        unfold ptr at HPut
        go_wp2_with fail
        refine HPut.out.mono ?_
        rintro e W3 ⟨rfl, hO3, hT3⟩
        obtain ⟨ok3, t3, o3, p3, b3⟩ := HS.out.put HB8.out.2.2 HTo.out.1 HTo.out.2 hO3 hT3
        have hTy : wr.heap.size ≠ T := fun e => by
          obtain ⟨u, hu, _⟩ := HTo.out.1.held
          rw [← e, HB8.out.1] at hu
          injection hu with hu
          injection hu with _ hu _
          exact absurd hu (by decide)
        have hb8 : W3.heap[wr.heap.size]? = some (.cells #[.string k, .string v] 33 (0, 0)) := by
          rw [hO3.block _ (Array.getElem?_eq_some_iff.1 HB8.out.1).1 (by simpa using hTy)]
          exact HB8.out.1
        have HW := hide (And.intro t3 (And.intro o3 (And.intro p3 (And.intro b3 hb8))))
        have HRel := hide (And.intro (HS.out.rel.step HS.out.tok (p := (k, v)) HF.out.1) (HS.out.tok.set (pathN_lt k) (by rw [pathN_length]; have := HF.out.1; omega) (v := v) HF.out.2))
        have HGe := hide HS.out.ge
        have y0 : W3.cell? ⟨wr.heap.size, 0, none⟩ = some (.string k) := cell_of_row _ _ 0 _ _ (0, 0) hb8
        have y1 : W3.cell? ⟨wr.heap.size, 1, none⟩ = some (.string v) := cell_of_row _ _ 1 _ _ (0, 0) hb8
        clear hO3 hT3 t3 o3 p3 b3 hTy hb8 HPut HPr HTo HB8 HS2
        generalize wr.heap.size = b8 at *
        go_wp2_with fail
        have HFl : Hid (∀ j, j < m.length → ∀ t : Pr, m.getD j pr0 = t → (m.take (j + 1)).filter (fun q => decide (q.1 ≠ k)) = (m.take j).filter (fun q => decide (q.1 ≠ k)) ++ (if t.1 = k then [] else [t])) := fun j hj t ht => by
          rw [List.take_succ_eq_append_getElem hj, List.filter_append]
          have e : m[j] = t := by rw [← ht, List.getD_eq_getElem?_getD, List.getElem?_eq_getElem hj]; rfl
          rw [e]
          by_cases h : t.1 = k
          · simp [h]
          · simp [h]
        go_loopw [10, 11] (fun nv kv W => ∃ (j : Nat) (na : Option Addr) (nl nc : Nat), j ≤ m.length ∧ kv = .int .i64 (j : Int) ∧ nv = .slice na nl nc ∧ nl = ((m.take j).filter (fun q => decide (q.1 ≠ k))).length ∧ W.ownsRow W3.heap.size 33 2 (.slice na nl nc) nl (prC ((m.take j).filter (fun q => decide (q.1 ≠ k)))) ∧ Below W3.heap.size W3 W) (fun _ kv _ => m.length - (intOf kv).toNat)
        case atStart => exact ⟨0, none, 0, 0, by omega, rfl, rfl, by simp, World.ownsRow_nil _ _ _ _, Below.refl _ _⟩
        case round =>
          obtain ⟨j, na, nl, nc, hj, rfl, rfl, hnl, hno, hbj⟩ := hrel
          have HNo := hide hno
          have HBj := hide hbj
          have HNl := hide hnl
          have jj0 : (0 : Int) ≤ (j : Int) := by omega
          have z0 : wr.cell? ⟨b8, 0, none⟩ = some (.string k) := (hbj.cell (p := ⟨b8, 0, none⟩) (World.block_lt_of_cell? W3 _ y0)).trans y0
          have z1 : wr.cell? ⟨b8, 1, none⟩ = some (.string v) := (hbj.cell (p := ⟨b8, 1, none⟩) (World.block_lt_of_cell? W3 _ y1)).trans y1
          clear hno hbj hnl
          by_cases hjl : j < m.length
          · have jj1 : (j : Int) < (m.length : Int) := by omega
            obtain ⟨mg, mo, rfl, c0, c1⟩ := HW.out.2.2.1.keep HBj.out j hjl
            obtain ⟨t, ht⟩ : ∃ t, m.getD j pr0 = t := ⟨_, rfl⟩
            have HFj := hide (HFl.out j hjl t ht)
            rw [ht] at c0 c1
            clear ht
            obtain ⟨tk, tv⟩ := t
            dsimp only at c0 c1
            by_cases hq : tk = k
            · have HFe : Hid ((m.take (j + 1)).filter (fun q => decide (q.1 ≠ k)) = (m.take j).filter (fun q => decide (q.1 ≠ k))) := by
                show _ = _
                rw [HFj.out, if_pos hq, List.append_nil]
              rw [hq] at c0
              clear hq HFj
              go_wp2_with fail
              go_region
              all_goals
                go_wp2
                go_roundw
                case rel => exact ⟨j + 1, na, nl, nc, by omega, by go_num, rfl, by rw [HFe.out]; exact HNl.out, by rw [HFe.out]; exact HNo.out.drew, HBj.out.drew⟩
                case measure => simp [intOf]; omega
            · have HFe : Hid ((m.take (j + 1)).filter (fun q => decide (q.1 ≠ k)) = (m.take j).filter (fun q => decide (q.1 ≠ k)) ++ [(tk, tv)]) := by
                show _ = _
                rw [HFj.out, if_neg hq]
              have HLe : Hid (nl ≤ 10000000) := by
                have h1 := HNl.out
                have h2 := List.length_filter_le (fun q : Pr => decide (q.1 ≠ k)) (m.take j)
                have h3 : (m.take j).length ≤ m.length := by simp; omega
                show _ ≤ _
                omega
              have hq2 : (tk.toList == k.toList) = false := by
                rw [beq_eq_false_iff_ne]
                exact fun e => hq (text_inj e)
              have hn1 := HLe.out
              clear HFj
              go_wp2_with fail
              go_region
              all_goals
                have HO2 := hide ((HNo.out.drew).alloc (.cells #[.string tk, .string tv] 33))
                have HNews : Hid (∀ jx u, [Value.string tk, .string tv][jx]? = some u → (wr.drew.alloc (.cells #[.string tk, .string tv] 33)).cell? ((⟨wr.heap.size, 0, none⟩ : Addr).add jx) = some u) := World.news_of_block (cs := #[.string tk, .string tv]) (heap_alloc_new wr.drew (.cells #[.string tk, .string tv] 33))
                have HB2 : Hid (Below W3.heap.size W3 (wr.drew.alloc (.cells #[.string tk, .string tv] 33))) := HBj.out.drew.alloc HBj.out.size _
                go_wp2_with (at_builtin; go_must (refine wpList_append_lies _ rfl (.tmp 75) (.tmp 80) 27 rfl W3.heap.size 33 i0 _ 2 32 Tryz.underlying27 hi0 hz0 hz1 hz2 rfl (by omega) (.slice na nl nc) nl _ rfl HO2.out ⟨wr.heap.size, 0, none⟩ 1 1 [.string tk, .string tv] rfl rfl HNews.out (by simp [Value.oneCell']) (by omega) (by unfold maxLen; omega) (by omega) HB2.out.size _ rfl ?_); intro g4 c4 w4 ho4 hg4 hat4 hlt4; go_must (have HX4 := hide (And.intro ho4 hg4)); clear ho4 hg4 hat4 hlt4)
                go_roundw
                case rel => exact ⟨j + 1, some ⟨g4, 0, none⟩, nl + 1, c4, by omega, by go_num, rfl, by rw [HFe.out, List.length_append, ← HNl.out]; rfl, by rw [HFe.out, prC_snoc]; exact HX4.out.1, HB2.out.grown HX4.out.2 HB2.out.size (own_ge HO2.out (Nat.le_refl _))⟩
                case measure => simp [intOf]; omega
          · obtain rfl : j = m.length := by omega
            have HFe : Hid ((m.take m.length).filter (fun q => decide (q.1 ≠ k)) = m.filter (fun q => decide (q.1 ≠ k))) := by
              show _ = _
              rw [List.take_length]
            have HNo2 : Hid (wr.ownsRow W3.heap.size 33 2 (.slice na nl nc) nl (prC (m.filter (fun q => decide (q.1 ≠ k))))) := by
              have h := HNo.out
              rw [HFe.out] at h
              exact h
            have HNl2 : Hid (nl = (m.filter (fun q => decide (q.1 ≠ k))).length) := by
              have h := HNl.out
              rw [HFe.out] at h
              exact h
            have HLe : Hid (nl ≤ m.length) := by
              have h2 := List.length_filter_le (fun q : Pr => decide (q.1 ≠ k)) m
              show _ ≤ _
              rw [HNl2.out]; exact h2
            have HEnd : Hid (∀ W mv', Below W3.heap.size W3 W → W.ownsRow W3.heap.size 33 2 mv' (stepM m (k, v)).length (prC (stepM m (k, v))) → RoSt w1 W T (.map (some M)) mv' (n.set (pathN k) v) (stepM m (k, v))) := fun W mv' hW ho => by
              obtain ⟨t3, o3, p3, b3, _⟩ := HW.out
              exact ⟨HRel.out.1, HRel.out.2, ⟨ok3, W3.heap.size, t3.keep hW, fun jx hjx => ⟨o3 jx hjx, (t3.blk jx hjx).1⟩, b3.size, hW.size, ho⟩, b3.trans (hW.mono b3.size), HGe.out⟩
            clear HNo HNl HFe
            by_cases hv : v = ⟨#[]⟩
            · have HSm : Hid (stepM m (k, v) = m.filter (fun q => decide (q.1 ≠ k))) := by
                show _ = _
                unfold stepM
                rw [if_pos (by rw [hv]; rfl), List.append_nil]
              have HEn2 := hide (HEnd.out wr (.slice na nl nc) HBj.out (by rw [HSm.out, ← HNl2.out]; exact HNo2.out))
              rw [hv] at z1
              go_wp2
              go_roundw
              case rel => exact ⟨i + 1, stepM m (k, v), n.set (pathN k) v, na, nc, by omega, by go_num, by rw [HSm.out, ← HNl2.out], by rw [HSm.out, ← HNl2.out]; have := HLe.out; omega, by rw [HSm.out, ← HNl2.out, ← HSm.out]; exact HEn2.out⟩
              case measure => simp [intOf]; omega
            · have HSm : Hid (stepM m (k, v) = m.filter (fun q => decide (q.1 ≠ k)) ++ [(k, v)]) := by
                show _ = _
                unfold stepM
                show _ ++ (if v.size = 0 then [] else [(k, v)]) = _
                have hsz : ¬ v.size = 0 := fun e => hv (ByteArray.ext (Array.eq_empty_of_size_eq_zero e))
                rw [if_neg hsz]
              have hv2 : v.toList.isEmpty = false := by
                cases h : v.toList with
                | nil => exact absurd (text_inj (h.trans (by rw [ByteArray.toList_eq]))) hv
                | cons => rfl
              have HO2 := hide (HNo2.out.alloc (.cells #[.string k, .string v] 33))
              have HNews : Hid (∀ jx u, [Value.string k, .string v][jx]? = some u → (wr.alloc (.cells #[.string k, .string v] 33)).cell? ((⟨wr.heap.size, 0, none⟩ : Addr).add jx) = some u) := World.news_of_block (cs := #[.string k, .string v]) (heap_alloc_new wr (.cells #[.string k, .string v] 33))
              have HB2 : Hid (Below W3.heap.size W3 (wr.alloc (.cells #[.string k, .string v] 33))) := HBj.out.alloc HBj.out.size _
              have hn1 := HLe.out
              go_wp2_with (at_builtin; go_must (refine wpList_append_lies _ rfl (.tmp 86) (.tmp 88) 27 rfl W3.heap.size 33 i0 _ 2 32 Tryz.underlying27 hi0 hz0 hz1 hz2 rfl (by omega) (.slice na nl nc) nl _ rfl HO2.out ⟨wr.heap.size, 0, none⟩ 1 1 [.string k, .string v] rfl rfl HNews.out (by simp [Value.oneCell']) (by omega) (by unfold maxLen; omega) (by omega) HB2.out.size _ rfl ?_); intro g4 c4 w4 ho4 hg4 hat4 hlt4; go_must (have HX4 := hide (And.intro ho4 hg4)); clear ho4 hg4 hat4 hlt4)
              have hlen : (stepM m (k, v)).length = nl + 1 := by rw [HSm.out, List.length_append, ← HNl2.out]; rfl
              have HEn2 := hide (HEnd.out w4 (.slice (some ⟨g4, 0, none⟩) (nl + 1) c4) (HB2.out.grown HX4.out.2 HB2.out.size (own_ge HO2.out (Nat.le_refl _))) (by rw [hlen, HSm.out, prC_snoc]; exact HX4.out.1))
              go_roundw
              case rel => exact ⟨i + 1, stepM m (k, v), n.set (pathN k) v, some ⟨g4, 0, none⟩, c4, by omega, by go_num, by rw [hlen], by rw [hlen]; omega, by rw [hlen]; exact HEn2.out⟩
              case measure => simp [intOf]; omega
      · have HPut := hide (cPut_long T (wr.heap.size + 1) 0 1 k v _ HPr.out hfit)
        unfold ptr at HPut
        have HB0 := hide HB8.out.2.2
        by_cases hk : k.size ≤ 64
        · have hE : longE k = 9 := if_pos hk
          have k1 : (k.size : Int) ≤ 64 := by omega
          have v1 : (400 : Int) < (v.size : Int) := by omega
          rw [hE] at HPut
          clear hE hfit
          go_wp2_with fail
          refine HPut.out.mono ?_
          rintro e W3 ⟨rfl, hb3⟩
          have hb8 : W3.heap[wr.heap.size]? = some (.cells #[.string k, .string v] 33 (0, 0)) := (hb3.block _ (Array.getElem?_eq_some_iff.1 HB8.out.1).1).trans HB8.out.1
          have y0 : W3.cell? ⟨wr.heap.size, 0, none⟩ = some (.string k) := cell_of_row _ _ 0 _ _ (0, 0) hb8
          have y1 : W3.cell? ⟨wr.heap.size, 1, none⟩ = some (.string v) := cell_of_row _ _ 1 _ _ (0, 0) hb8
          have HS3 := hide (HS2.out.keep hb3)
          clear hb3 hb8
          go_wp2
          go_roundw
          case rel => exact ⟨i + 1, m, n, ma, mc, by omega, by go_num, rfl, by omega, HS3.out⟩
          case measure => simp [intOf]; omega
        · have hE : longE k = 8 := if_neg hk
          have k1 : (64 : Int) < (k.size : Int) := by omega
          rw [hE] at HPut
          clear hE hfit
          go_wp2_with fail
          refine HPut.out.mono ?_
          rintro e W3 ⟨rfl, hb3⟩
          have hb8 : W3.heap[wr.heap.size]? = some (.cells #[.string k, .string v] 33 (0, 0)) := (hb3.block _ (Array.getElem?_eq_some_iff.1 HB8.out.1).1).trans HB8.out.1
          have y0 : W3.cell? ⟨wr.heap.size, 0, none⟩ = some (.string k) := cell_of_row _ _ 0 _ _ (0, 0) hb8
          have HS3 := hide (HS2.out.keep hb3)
          clear hb3 hb8
          go_wp2
          go_roundw
          case rel => exact ⟨i + 1, m, n, ma, mc, by omega, by go_num, rfl, by omega, HS3.out⟩
          case measure => simp [intOf]; omega
    · obtain rfl : i = ps.length := by omega
      obtain ⟨ok, base, ht, hok, hba, hbb, hrow⟩ := HS.out.tree
      have hbel := HS.out.bel
      have HRoot := hide (cRoot_any ok T (.map (some M)) n wr ht HS.out.tok (HTb.out.low hbel.size (fun k hk => hbel.block k (by have := HTb.out.three; omega))) (fun k hk => by have := HTb.out.three; have := (hok k hk).1; omega))
      have HRef := hide (fun W (hW : KeepH ok wr W) => rRootOf_any ma mc m n W (Prs.ofRow (base := base) (c := mc) (own_far hrow (fun g hg hl => by
        obtain ⟨_, cur, hc⟩ := ownsRow_type hrow g hg
        rw [hc]
        exact hW.cells hc (by decide) (by decide)))) (fun p hp => HS.out.rel.sz p hp) HS.out.rel.nd (by omega) HS.out.tok.cb (HS.out.rel.flat HS.out.tok))
      have HBel := hide hbel
      have HOk := hide (fun k hk => (hok k hk).1)
      clear ht hok hba hbb hrow hbel
      unfold ptr at HRoot
      go_wp2_with fail
      refine HRoot.out.mono ?_
      rintro e w5 ⟨rfl, hk5⟩
      have HK5 := hide hk5
      clear hk5
      go_wp2_with fail
      refine (HRef.out w5 HK5.out).mono ?_
      rintro e w6 ⟨rfl, hb6⟩
      have HB6 := hide hb6
      clear hb6
      go_wp2
      go_ret
      refine ⟨rfl, ?_⟩
      have h1 := HK5.out.below (B := w1.heap.size) HBel.out.size HOk.out
      exact HB1.out.trans (((HBel.out.trans h1).trans (HB6.out.mono (Nat.le_trans HBel.out.size HK5.out.size))).mono HB1.out.size)
end Go.Proofs.YthdjmldddjljfaaGreatDoor
