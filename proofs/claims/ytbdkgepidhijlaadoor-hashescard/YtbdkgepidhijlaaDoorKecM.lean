/-
  OUR OWN: the walk of canopyref.Hash.
-/
import Derived.Test.YtbdkgepidhijlaaDoorKecL
namespace Go.Proofs.YtbdkgepidhijlaaDoor
open Go.RowKit

theorem own8_shape {w : World} {base : Nat} {v : Value} {l : List UInt8} (h : Own8 w base v l) : ∃ g cap, v = .slice (some ⟨g, 0, none⟩) l.length cap ∧ base ≤ g ∧ g < w.heap.size := by
  have h' := h
  obtain ⟨g, cap, cur, fr, rfl, hb, hgg, _⟩ := h
  exact ⟨g, cap, rfl, hb, (h'.lt g rfl).2⟩
theorem own8_grown {w w' : World} {base : Nat} {v : Value} {l : List UInt8} (h : Own8 w base v l) (hg : w.grownBy w' none) : Own8 w' base v l := h.kept hg (by obtain ⟨g, cap, rfl, _⟩ := own8_shape h; simp [Value.ownBlock])
theorem own8_set {w : World} {base g cap n : Nat} {l : List UInt8} (h : Own8 w base (.slice (some ⟨g, 0, none⟩) n cap) l) (j : Nat) (b : UInt8) (hj : j < l.length) : Own8 (w.setCell ⟨g, j, none⟩ (.int .u8 (b.toNat : Int))) base (.slice (some ⟨g, 0, none⟩) n cap) (l.set j b) := by
  obtain ⟨g', cap', cur, fr, hv, hb, hgg, hfr, h1, h2, h3, h4⟩ := h
  simp only [Value.slice.injEq, Option.some.injEq, Addr.mk.injEq, and_true] at hv
  obtain ⟨rfl, rfl, rfl⟩ := hv
  refine ⟨g, cap, cur.setIfInBounds j (.int .u8 (b.toNat : Int)), fr, by simp, hb, heap_setCell_at hgg j _, fun i hi => hfr i (by simpa using hi), by simpa using h1, h2, by simp [h3], ?_⟩
  rw [List.length_set]
  apply List.ext_getElem?
  intro i
  have h5 := congrArg (fun l => l[i]?) h4
  simp only [List.getElem?_take, bl, List.getElem?_map] at h5
  simp only [Array.toList_setIfInBounds, List.getElem?_take, bl, List.getElem?_map, List.getElem?_set, Array.length_toList]
  by_cases hi : i < l.length
  · rw [if_pos hi] at h5 ⊢
    by_cases e : j = i
    · subst e
      rw [if_pos rfl, if_pos rfl, if_pos (by omega), if_pos hj]; rfl
    · rw [if_neg e, if_neg e]; exact h5
  · rw [if_neg hi] at h5 ⊢
    rw [if_neg (by omega)]; exact h5

def byt (L : List UInt8) (P c : Nat) (i : Nat) : Nat := (L.getD (P + (8 * c + i)) 0).toNat
theorem byt_lt (L : List UInt8) (P c i : Nat) : byt L P c i < 256 := UInt8.toNat_lt _

theorem own_conv {w : World} {base n : Nat} {v : Value} {l : List UInt8} (h : w.ownsRow base 5 1 v n (bl l)) (h0 : 0 < n) :
    (convert 24 9 v).run Tryd.prog w = .ok (.string ⟨l.toArray⟩) w := by
  have hl : l.length = n := by have := h.1; rw [bl_length] at this; omega
  obtain ⟨g, cap, rfl, _, _⟩ := h.form h0
  subst hl
  refine run_convert_bytes_back (P := Tryd.prog) w 24 9 5 ⟨g, 0, none⟩ cap l Tryd.underlying24 Tryd.underlying5 Tryd.underlying9 (fun j hj => ?_)
  rw [addr_add, Nat.zero_add, h.cellAt j (by omega)]
  simp [bl, hj]
theorem out_snoc (f : Nat → Nat) (k : Nat) (hk : k < 32) : bl ((outL f).take k) ++ [.int .u8 ((outB f k).toNat : Int)] = bl ((outL f).take (k + 1)) := by
  have hl : (outL f).length = 32 := by simp [outL]
  rw [List.take_succ_eq_append_getElem (by omega), bl_append]
  congr 1
  simp [bl, outL]

set_option maxRecDepth 100000 in
set_option maxHeartbeats 8000000 in
theorem rHash_any (s : ByteArray) (w : World) (hs : s.size ≤ 140737488351232) :
    Calls Tryd.prog 5 #[.string s] w fun e w' => e = .returned (.string (hashOf s)) ∧ Below w.heap.size w w' := by
  have e : s.data.toList.length = s.size := by rw [Array.length_toList]; rfl
  have HE := hide e
  obtain ⟨cap0, hcv, ho0⟩ := Own8.of_string w s (by omega)
  have hb0 : Below w.heap.size w (w.drew.alloc (.cells (bytesRow s cap0) 5 ((bytesRow s cap0).size, (bytesRow s cap0).size + 1))) := (Below.refl _ w).drew.alloc (Nat.le_refl _) _
  obtain ⟨O0, hO0⟩ : ∃ O, Obj.cells (bytesRow s cap0) 5 ((bytesRow s cap0).size, (bytesRow s cap0).size + 1) = O := ⟨_, rfl⟩
  rw [hO0] at hcv ho0 hb0
  have ho1 := own8_grown ho0 (World.grownBy_alloc (w.drew.alloc O0) (.cells #[.int .u8 1] 5) none)
  obtain ⟨g1, cap1, w1, hr1, ho2, hg1, hat1⟩ := run_append8 _ w.heap.size 24 _ _ ho1 ⟨w.heap.size + 1, 0, none⟩ 1 1 (by
    rw [addr_add, Nat.zero_add]
    have := World.cell?_alloc_new (w := w.drew.alloc O0) #[.int .u8 1] 5 0
    simpa using this) (by rw [HE.out]; omega) (by simp; omega)
  have hb1 : Below w.heap.size w w1 := (hb0.alloc (by simp) (.cells #[.int .u8 1] 5)).grown hg1 (by simp; omega) (row_ge (Nat.le_refl _))
  rw [HE.out] at hr1 ho2
  have HO1 := hide ho2
  have HB1 := hide hb1
  clear e hO0 ho0 hb0 ho1 ho2 hg1 hat1 hb1
  go_enter Tryd.func5, Tryd.ntmps5
  go_wp2_with (at_builtin; go_must (refine wpList_append_run rfl (.tmp 14) (.tmp 15) 24 rfl _ _ _ w1 rfl rfl hr1 ?_))
  clear hr1 hcv
  go_loopw [3] (fun v wr => ∃ (k N g cap : Nat), Hid (k ≤ 135 - s.size % 136) ∧ Hid (N = s.size + 1 + k) ∧ v = .slice (some ⟨g, 0, none⟩) N cap ∧ Own8 wr w.heap.size (.slice (some ⟨g, 0, none⟩) N cap) (padK s.data.toList k) ∧ Below w.heap.size w wr) (fun v _ => s.size + 136 - sliceLen v)
  case atStart => exact ⟨0, s.size + 1, g1, cap1, Nat.zero_le _, rfl, rfl, HO1.out, HB1.out⟩
  case round =>
    obtain ⟨k, N, g, cap, hk, hN, rfl, ho, hb⟩ := hrel
    have HO := hide ho
    have HB := hide hb
    clear ho hb HO1 HB1
    have hNb : (N : Int) ≤ 140737488355328 := by have := hN.out; have := hk.out; omega
    have HPL : Hid ((padK s.data.toList k).length = N) := by show _ = _; rw [padK_length, HE.out, hN.out]
    by_cases hlt : k < 135 - s.size % 136
    · have htst : ((N : Int) % 136 != 0) = true := by rw [bne_iff_ne]; have := hN.out; omega
      have ho1 := own8_grown HO.out (World.grownBy_alloc wr (.cells #[.int .u8 0] 5) none)
      obtain ⟨g2, cap2, w2, hr2, ho2, hg2, hat2⟩ := run_append8 _ w.heap.size 24 _ _ ho1 ⟨wr.heap.size, 0, none⟩ 1 0 (by
        rw [addr_add, Nat.zero_add]
        have := World.cell?_alloc_new (w := wr) #[.int .u8 0] 5 0
        rw [this]; simp) (by rw [HPL.out]; have := hN.out; omega) (by have := HB.out.size; simp; omega)
      rw [HPL.out, padK_snoc] at ho2
      rw [HPL.out] at hr2
      have HO2 := hide ho2
      have HB2 := hide ((HB.out.alloc HB.out.size (.cells #[.int .u8 0] 5)).grown hg2 (by have := HB.out.size; simp; omega) (fun k hk => (HO.out.lt k hk).1))
      clear ho1 ho2 hg2 hat2
      go_wp2_with (at_builtin; go_must (refine wpList_append_run rfl (.tmp 21) (.tmp 22) 24 rfl _ _ _ w2 rfl rfl hr2 ?_))
      go_roundw
      case rel => exact ⟨k + 1, N + 1, g2, cap2, by show k + 1 ≤ _; omega, by show N + 1 = _; have := hN.out; omega, rfl, HO2.out, HB2.out⟩
      case measure => simp [sliceLen]; have := hN.out; omega
    · have hkk : k = 135 - s.size % 136 := by have := hk.out; omega
      have htst : ((N : Int) % 136 != 0) = false := by rw [bne_eq_false_iff_eq]; have := hN.out; omega
      have hlast := HO.out.cells (N - 1) (by rw [HPL.out]; have := hN.out; omega)
      have hset := own8_set HO.out (N - 1) ((padK s.data.toList k).getD (N - 1) 0 ||| 128) (by rw [HPL.out]; have := hN.out; omega)
      have hfull : (padK s.data.toList k).set (N - 1) ((padK s.data.toList k).getD (N - 1) 0 ||| 128) = fullL s.data.toList := by
        unfold fullL; rw [HE.out, ← hkk, hN.out]
      rw [hfull] at hset
      have hor : bits BinOp.or IntKind.u8 (((padK s.data.toList k).getD (N - 1) 0).toNat : Int) 128 = (((padK s.data.toList k).getD (N - 1) 0 ||| 128).toNat : Int) := by
        have h := u8_or_nat ((padK s.data.toList k).getD (N - 1) 0).toNat 128 (UInt8.toNat_lt _) (by omega)
        rw [UInt8.toNat_or]; exact h
      have HF := hide hset
      have HBF := hide (HB.out.setCell (p := ⟨g, N - 1, none⟩) (HO.out.lt g rfl).1 (.int .u8 ((((padK s.data.toList k).getD (N - 1) 0) ||| 128).toNat : Int)))
      obtain ⟨hl1, hl2⟩ := hlast
      clear hset hfull hkk
      generalize ((padK s.data.toList k).getD (N - 1) 0 ||| 128).toNat = nb at *
      generalize ((padK s.data.toList k).getD (N - 1) 0).toNat = ob at *
      have hN1 : (1 : Int) ≤ (N : Int) := by have := hN.out; omega
      have r1 : ((N : Int) - 1).toNat = N - 1 := by omega
      go_wp2_with fail
      obtain ⟨W, hW⟩ : ∃ W, wr.setCell ⟨g, N - 1, none⟩ (.int .u8 (nb : Int)) = W := ⟨_, rfl⟩
      rw [hW] at HF HBF ⊢
      clear hW hl1 hl2 hor r1 htst
      have HLL : Hid ((fullL s.data.toList).length = N) := by show _ = _; rw [fullL_length, HE.out, hN.out]; have := hk.out; omega
      have HNQ : Hid (N = 136 * (s.size / 136 + 1)) := by show _ = _; rw [hN.out]; have := hk.out; omega
      clear hlt
      generalize hL : fullL s.data.toList = L at *
      have HL := hide hL
      clear hL
      refine (constants_any W).mono ?_
      rintro e w3 ⟨vc, rfl, hoc, hbc⟩
      obtain ⟨gc, cc, rfl, _, _⟩ := hoc.form (by omega)
      have HCC : Hid (∀ j, j < 24 → w3.cell? ⟨gc, j, none⟩ = some (.int .u64 ((rc j : Nat) : Int))) := fun j hj => by
        rw [hoc.cellAt j (by omega), arr_toList]; simp [hj]
      have HF3 := hide (own8_grown HF.out (⟨hbc.os, hbc.tape, hbc.output, hbc.size, fun k hk _ => hbc.block k hk⟩ : W.grownBy w3 none))
      have HB3 : Hid (Below w.heap.size w w3) := HBF.out.trans (hbc.mono HBF.out.size)
      clear hoc hbc HF HBF HO HB
      have hm25 := make25
      go_wp2
      go_loopw [5, 6] (fun a at' wr => ∃ (m P ga : Nat), Hid (m ≤ s.size / 136 + 1) ∧ at' = .int .i64 (P : Int) ∧ Hid (P = 136 * m) ∧ a = .slice (some ⟨ga, 0, none⟩) 25 25 ∧ At wr ga 27 25 (rfTo L m) ∧ Hid (w3.heap.size ≤ ga) ∧ w3.grownBy wr none) (fun _ at' _ => N - (intOf at').toNat)
      case atStart => exact ⟨0, 0, w3.heap.size, Nat.zero_le _, rfl, rfl, rfl, heap_alloc_new w3 _, Nat.le_refl _, World.grownBy_alloc w3 _ _⟩
      case round =>
        obtain ⟨m, P, ga, hm, rfl, hP, rfl, hA, hga, hg⟩ := hrel
        have HA := hide hA
        have HG := hide hg
        clear hA hg
        by_cases hlt : P < N
        · have hmq : m ≤ s.size / 136 := by have := hP.out; have := HNQ.out; omega
          have hFw := rfTo_w L m
          have HR : Hid (rfTo L (m + 1) = permTo (upTo 17 (xorB (rfTo L m) L P) (rfTo L m)) 24) := by show _ = _; rw [hP.out]; rfl
          generalize hF : rfTo L m = F at *
          clear hF
          have hPd : decide ((P : Int) < (N : Int)) = true := by simp; omega
          go_wp2
          clear hPd
          obtain ⟨wo, hwo⟩ : ∃ wo : World, wo = wr := ⟨_, rfl⟩
          subst hwo
          go_loopw [7] (fun i wr => ∃ c : Nat, c ≤ 17 ∧ i = .int .i64 (c : Int) ∧ At wr ga 27 25 (upTo c (xorB F L P) F) ∧ w3.grownBy wr none) (fun i _ => 17 - (intOf i).toNat)
          case atStart => exact ⟨0, Nat.zero_le _, rfl, HA.out.congr (fun j _ => upTo_zero _ _ j), HG.out⟩
          case round =>
            obtain ⟨c, hc, rfl, hB, hg⟩ := hrel
            by_cases hcl : c < 17
            · have hcells := (own8_grown HF3.out hg).cells
              have HCL := hide hcells
              have hx := hB.cell c (by omega)
              rw [upTo_at] at hx
              have hfz := hB.free c
              obtain ⟨y, hy⟩ : ∃ y, Hid (leTo (byt L P c) 8 = y) := ⟨_, rfl⟩
              have hyw : W64 y := by rw [← hy.out]; exact leTo_w (byt_lt L P c)
              have hxor := xor_u64 (F c) y (hFw c) hyw
              have HS : Hid (At (wr.setCell ⟨ga, c, none⟩ (.int .u64 ((F c ^^^ y : Nat) : Int))) ga 27 25 (upTo (c + 1) (xorB F L P) F) ∧ w3.grownBy (wr.setCell ⟨ga, c, none⟩ (.int .u64 ((F c ^^^ y : Nat) : Int))) none) := by
                refine ⟨?_, grown_set hg _ _ _ (.inl hga.out)⟩
                have e : F c ^^^ y = xorB F L P c := by rw [← hy.out]; rfl
                rw [e]
                exact (hB.set c _).congr (fun j _ => upTo_succ c (xorB F L P) F j)
              clear hB hg hcells
              have hcd : decide ((c : Int) < 17) = true := by simp; omega
              go_wp2
              clear hcd
              go_loop [8, 9] (fun v i => ∃ t : Nat, t ≤ 8 ∧ i = .int .i64 (7 - (t : Int)) ∧ v = .int .u64 ((hiTo (byt L P c) t : Nat) : Int)) (fun _ i => (intOf i + 1).toNat)
              case atStart => exact ⟨0, Nat.zero_le _, rfl, rfl⟩
              case round =>
                obtain ⟨t, ht, rfl, rfl⟩ := hrel
                by_cases htl : t < 8
                · obtain ⟨Q, hQ⟩ : ∃ Q, Hid (P + (8 * c + (7 - t)) = Q) := ⟨_, rfl⟩
                  have hQN : (Q : Int) < (N : Int) := by have := hQ.out; have := hP.out; have := HNQ.out; omega
                  have hb := (HCL.out Q (by rw [HLL.out]; omega)).1
                  have HST := hide (hi_step (byt L P c) (byt_lt L P c) t htl)
                  have hbq : byt L P c (7 - t) = (L.getD Q 0).toNat := by unfold byt; rw [hQ.out]
                  rw [hbq] at HST
                  clear hbq
                  have hq : (P : Int) + 8 * (c : Int) + (7 - (t : Int)) = (Q : Int) := by have := hQ.out; omega
                  have hby : ((L.getD Q 0).toNat : Int) < 256 := by have := UInt8.toNat_lt (L.getD Q 0); omega
                  have hPb : (P : Int) ≤ 140737488355328 := by omega
                  generalize (L.getD Q 0).toNat = bq at *
                  go_wp2
                  go_round
                  case rel => exact ⟨t + 1, by omega, by congr 1; omega, by rw [HST.out]⟩
                  case measure => simp [intOf]; omega
                · have ht8 : t = 8 := by omega
                  have HY : Hid (hiTo (byt L P c) t = y) := by show _ = _; rw [ht8, hi_le, hy.out]
                  have htn : (7 : Int) < (t : Int) := by omega
                  clear ht8
                  rw [HY.out]
                  generalize F c ^^^ y = z at *
                  generalize F c = x at hx hxor
                  have hc25 : (c : Int) < 25 := by omega
                  go_wp2
                  go_roundw
                  case rel => exact ⟨c + 1, by omega, by go_num, HS.out.1, HS.out.2⟩
                  case measure => simp [intOf]; omega
            · have hc17 : c = 17 := by omega
              rw [hc17] at hB
              have HB7 := hide hB
              have HG7 := hide hg
              clear hB hg hc17
              go_wp2_with fail
              refine (permuted_any ga gc cc _ wr HB7.out (upTo_w (xorB_w hFw L P) hFw) (fun j hj => HG7.out.cell (HCC.out j hj) (by simp))).mono ?_
              rintro e w8 ⟨g8, rfl, ha8, hge8, hg8⟩
              rw [← HR.out] at ha8
              have H8 : Hid (At w8 g8 27 25 (rfTo L (m + 1)) ∧ w3.heap.size ≤ g8 ∧ w3.grownBy w8 none) := ⟨ha8, Nat.le_trans HG7.out.size hge8, HG7.out.trans hg8⟩
              clear ha8 hge8 hg8
              have hPb : (P : Int) ≤ 140737488355328 := by omega
              go_wp2
              go_roundw
              case rel => exact ⟨m + 1, P + 136, g8, by show m + 1 ≤ _; omega, by go_num, by show P + 136 = _; have := hP.out; omega, rfl, H8.out.1, H8.out.2.1, H8.out.2.2⟩
              case measure => simp [intOf]; have := hP.out; omega
        · have hmq : m = s.size / 136 + 1 := by have := hP.out; have := HNQ.out; have := hm.out; omega
          have HFI : Hid (rfTo L m = absF (spTo s (s.size / 136)) (padS (s.extract (136 * (s.size / 136)) s.size))) := by show _ = _; rw [hmq, ← HL.out]; exact rf_last s
          have HH : Hid (hashOf s = ⟨(outL (rfTo L m)).toArray⟩) := by show _ = _; rw [HFI.out]; rfl
          have hPd : decide ((P : Int) < (N : Int)) = false := by simp; omega
          generalize rfTo L m = F at *
          clear HFI hmq
          obtain ⟨j0, hj0, hy0, hy1, hy2⟩ := info_parts info5
          go_wp2
          clear hPd hlt
          obtain ⟨wo, hwo⟩ : ∃ wo : World, wo = wr := ⟨_, rfl⟩
          subst hwo
          go_loopw [10, 11] (fun v i wr => ∃ k : Nat, k ≤ 32 ∧ i = .int .i64 (k : Int) ∧ wr.ownsRow wo.heap.size 5 1 v k (bl ((outL F).take k)) ∧ Below wo.heap.size wo wr) (fun _ i _ => 32 - (intOf i).toNat)
          case atStart => exact ⟨0, Nat.zero_le _, rfl, World.ownsRow_nil _ _ _ _, Below.refl _ _⟩
          case round =>
            obtain ⟨k2, hk2, rfl, ho, hb⟩ := hrel
            have HO := hide ho
            have HB := hide hb
            clear ho hb
            by_cases hkl : k2 < 32
            · have hx0 := HA.out.cell (k2 / 8) (by omega)
              have hx : wr.cell? ⟨ga, k2 / 8, none⟩ = some (.int .u64 ((F (k2 / 8) : Nat) : Int)) := by rw [HB.out.cell (p := ⟨ga, k2 / 8, none⟩) HA.out.lt]; exact hx0
              clear hx0
              have HOE := hide (out_eq F k2)
              have HSN := hide (out_snoc F k2 hkl)
              have b0 : (0 : Int) ≤ (k2 : Int) := by omega
              have b1 : (k2 : Int) < 32 := by omega
              go_wp2_with (at_builtin; go_must (refine wpList_append_lies _ rfl (.tmp 81) (.tmp 92) 24 rfl wo.heap.size 5 j0 (.int .u8 0) 1 1 Tryd.underlying24 hj0 hy0 hy1 hy2 rfl (by decide) u10 k2 _ rfl (HO.out.alloc _) ⟨wr.heap.size, 0, none⟩ 1 1 [.int .u8 (((F (k2 / 8) : Nat) : Int) / 2 ^ (8 * (k2 % 8)) % 256)] rfl rfl (news_ofT wr 5 [.int .u8 (((F (k2 / 8) : Nat) : Int) / 2 ^ (8 * (k2 % 8)) % 256)]) (by simp [Value.oneCell']) (by omega) (by unfold maxLen; omega) (by omega) (by have := HB.out.size; simp; omega) _ rfl ?_); intro g9 c9 w9 ho9 hg9 ha9 hl9; go_must (rw [HOE.out, HSN.out] at ho9; have HO9 := hide ho9); go_must (have HB9 := hide ((HB.out.alloc HB.out.size _).grown hg9 (by have := HB.out.size; simp; omega) (own_ge HO.out (Nat.le_refl _)))); clear ho9 hg9)
              go_roundw
              case rel => exact ⟨k2 + 1, by omega, by go_num, HO9.out, HB9.out⟩
              case measure => simp [intOf]; omega
            · have hk32 : k2 = 32 := by omega
              have hol := HO.out
              rw [hk32, List.take_of_length_le (by simp [outL])] at hol
              have hcv2 := own_conv hol (by omega)
              have HFB : Hid (Below w.heap.size w wr) := by
                have h3 : Below w.heap.size w wo := HB3.out.trans ⟨HG.out.os, HG.out.tape, HG.out.output, HG.out.size, fun k hk => HG.out.block k (by have := HB3.out.size; omega) (by simp)⟩
                exact h3.trans (HB.out.mono h3.size)
              have hkd : decide ((k2 : Int) < 32) = false := by simp; omega
              clear hol hk32
              go_wp2
              go_ret
              exact ⟨by rw [HH.out]; rfl, HFB.out⟩
end Go.Proofs.YtbdkgepidhijlaaDoor
