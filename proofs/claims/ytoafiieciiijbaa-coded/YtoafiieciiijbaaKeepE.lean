/-
  OUR OWN: the walk of canopykeep.made.
-/
import Derived.Test.YtoafiieciiijbaaKeepC
import Derived.Test.YtoafiieciiijbaaKeepD
namespace Go.Proofs.Ytoafiieciiijbaa
open Go.RowKit
attribute [local go_sem ↓] Go.wp_at_zero Go.wp_at_succ

/-- texts in memory -/
def Strs (w : World) (bo : Option Addr) (ts : List ByteArray) : Prop := ∀ k, k < ts.length → ∃ b off, bo = some ⟨b, off, none⟩ ∧ w.cell? ⟨b, off + k, none⟩ = some (.string (ts.getD k ⟨#[]⟩))
theorem Strs.keep {w w' : World} {bo : Option Addr} {ts : List ByteArray} (h : Strs w bo ts) (hb : Below w.heap.size w w') : Strs w' bo ts := fun k hk => by
  obtain ⟨b, off, h1, h2⟩ := h k hk
  exact ⟨b, off, h1, by rw [hb.cell (p := ⟨b, off + k, none⟩) (World.block_lt_of_cell? w _ h2)]; exact h2⟩

/-- the parts so far -/
structure Md (w wr : World) (v : Value) (qs : List Prt) (o : Nat) : Prop where
  own : wr.ownsRow w.heap.size 24 3 v qs.length (pcells qs)
  pre : Pre qs o
  len : qs.length + o ≤ 400
  sz : ∀ p ∈ qs, p.2.2.size ≤ 300
  bel : Below w.heap.size w wr
theorem Md.push {w wr w3 : World} {v : Value} {qs : List Prt} {o o' g c : Nat} {ob : Obj} {p : Prt} (h : Md w wr v qs o) (ho : w3.ownsRow w.heap.size 24 3 (.slice (some ⟨g, 0, none⟩) (qs.length + 1) c) (qs.length + 1) (pcells qs ++ pcell p)) (hg : (wr.alloc ob).grownBy w3 v.ownBlock)
    (hp : Pre (qs ++ [p]) o') (hl : qs.length + 1 + o' ≤ 400) (hs : p.2.2.size ≤ 300) : Md w w3 (.slice (some ⟨g, 0, none⟩) (qs.length + 1) c) (qs ++ [p]) o' where
  own := by rw [List.length_append, pcells_append, pcells_one]; exact ho
  pre := hp
  len := by simp; omega
  sz := fun q hq => by
    rcases List.mem_append.1 hq with hq | hq
    · exact h.sz q hq
    · obtain rfl : q = p := by simpa using hq
      exact hs
  bel := (h.bel.alloc h.bel.size _).grown hg (by have := h.bel.size; simp; omega) (own_ge h.own (Nat.le_refl _))
theorem Md.shape {w wr : World} {v : Value} {qs : List Prt} {o : Nat} (h : Md w wr v qs o) : ∃ ao c, v = .slice ao qs.length c := by
  rcases h.own.2 with ⟨rfl, h0⟩ | ⟨g, c, cur, rfl, _⟩
  · exact ⟨none, 0, by rw [h0]⟩
  · exact ⟨_, _, rfl⟩

def MdPost (w : World) (e : Ending) (w' : World) : Prop := ∃ v qs, e = .returned v ∧ Md w w' v qs 0

set_option maxHeartbeats 4000000 in
set_option maxRecDepth 20000 in
theorem made_any (ao : Option Addr) (cap : Nat) (zs : List Int) (bo : Option Addr) (bcap : Nat) (ts : List ByteArray) (w : World) (hz : zs.length ≤ 9223372036854775807) (hc : Ints w ao zs) (hr : ∀ z ∈ zs, -9223372036854775808 ≤ z ∧ z ≤ 9223372036854775807) (ht : ts.length ≤ 9223372036854775807) (hts : Strs w bo ts) (hsz : ∀ t ∈ ts, t.size ≤ 9223372036854775807) :
    Calls Try.prog 23 #[.slice ao zs.length cap, .slice bo ts.length bcap] w fun e w' => MdPost w e w' := by
  obtain ⟨i0, hi, hz0, hz1, hz2⟩ := info_parts info24
  have HC := hide hc
  have HR := hide hr
  have HT := hide hts
  have HSz := hide hsz
  clear hc hr hts hsz
  go_enter Try.func23, Try.ntmps23
  go_wp2_with fail
  go_loopw [5, 6, 7] (fun v ov iv wr => ∃ (qs : List Prt) (o k : Nat), ov = .int .i64 (o : Int) ∧ iv = .int .i64 (k : Int) ∧ k ≤ zs.length ∧ Md w wr v qs o) (fun _ _ iv _ => zs.length - (intOf iv).toNat)
  case atStart => exact ⟨[], 1, 0, rfl, rfl, Nat.zero_le _, ⟨World.ownsRow_nil _ _ _ _, Pre.start, by simp, by simp, Below.refl _ _⟩⟩
  case round =>
    obtain ⟨qs, o, k, rfl, rfl, hk, hmd⟩ := hrel
    obtain ⟨av, cv, rfl⟩ := hmd.shape
    have HM := hide hmd
    have hq4 : (qs.length : Int) + (o : Int) ≤ 400 := by have := hmd.len; omega
    clear hmd
    by_cases hgo : k < zs.length ∧ 0 < o ∧ qs.length + o < 400
    · obtain ⟨hg1, hg2, hg3⟩ := hgo
      obtain ⟨b, off, rfl, hcell⟩ := (HC.out.keep HM.out.bel).get k hg1
      have HRz : Hid (-9223372036854775808 ≤ zs.getD k 0 ∧ zs.getD k 0 ≤ 9223372036854775807) := HR.out _ (by
        have e : zs.getD k 0 = zs[k] := by simp [List.getD_eq_getElem?_getD, hg1]
        rw [e]; exact List.getElem_mem hg1)
      generalize zs.getD k 0 = z at *
      have b0 : (0 : Int) ≤ (k : Int) := by omega
      have b1 : (k : Int) < (zs.length : Int) := by omega
      have b2 : (0 : Int) < (o : Int) := by omega
      have b3 : (qs.length : Int) + (o : Int) < 400 := by omega
      have hpn := pickN_bounds z 10 (by omega)
      have HP10 := hide (pick_any z 10 wr HRz.out.1 HRz.out.2 (by omega) (by omega))
      obtain ⟨N, hN⟩ : ∃ N : Nat, pickN z 10 = (N : Int) := ⟨(pickN z 10).toNat, by omega⟩
      rw [hN] at HP10 hpn
      have n0 : (0 : Int) ≤ (N : Int) := by omega
      have n1 : (N : Int) ≤ 9 := by omega
      clear hN hpn
      go_wp2_with fail
      refine HP10.out.mono ?_
      rintro e w2 ⟨rfl, rfl⟩
      by_cases h5 : N < 5
      · have c5 : (N : Int) < 5 := by omega
        by_cases h6 : qs.length + o + N < 400
        · have c6 : (qs.length : Int) + (o : Int) + (N : Int) < 400 := by omega
          go_wp2_with (at_builtin; go_must (refine wpList_append_lies _ rfl (.tmp 43) (.tmp 46) 22 rfl w.heap.size 24 i0 _ 3 32 Try.underlying22 hi hz0 hz1 hz2 rfl (by omega) (.slice av qs.length cv) qs.length (pcells qs) rfl (HM.out.own.alloc _) ⟨w2.heap.size, 0, none⟩ 1 1 (pcell (true, N, ⟨#[]⟩)) (by rfl) (by rfl) (pcell_news w2 (true, N, ⟨#[]⟩)) (by simp [pcell, Value.oneCell']) (by omega) (by unfold maxLen; omega) (by omega) (by have := HM.out.bel.size; simp; omega) _ rfl ?_); intro g3 c3 w3 ho3 hg3 hat3 hlt3; go_must (have HP3 := hide (HM.out.push (p := (true, N, ⟨#[]⟩)) (o' := o - 1 + N) ho3 hg3 (Pre.list @HM.out.pre (by omega)) (by omega) (by simp [ByteArray.size]))); clear ho3 hg3 hat3 hlt3)
          go_roundw
          case rel => exact ⟨qs ++ [(true, N, ⟨#[]⟩)], o - 1 + N, k + 1, by congr 1; omega, by go_num, by omega, HP3.out⟩
          case measure => simp [intOf]; omega
        · have c6 : (400 : Int) ≤ (qs.length : Int) + (o : Int) + (N : Int) := by omega
          by_cases ht0 : ts = []
          · have t0 : (ts.length : Int) ≤ 0 := by simp [ht0]
            clear ht0
            go_wp2_with (at_builtin; go_must (refine wpList_append_lies _ rfl (.tmp 66) (.tmp 69) 22 rfl w.heap.size 24 i0 _ 3 32 Try.underlying22 hi hz0 hz1 hz2 rfl (by omega) (.slice av qs.length cv) qs.length (pcells qs) rfl (HM.out.own.alloc _) ⟨w2.heap.size, 0, none⟩ 1 1 (pcell (false, 0, ⟨#[]⟩)) (by rfl) (by rfl) (pcell_news w2 (false, 0, ⟨#[]⟩)) (by simp [pcell, Value.oneCell']) (by omega) (by unfold maxLen; omega) (by omega) (by have := HM.out.bel.size; simp; omega) _ rfl ?_); intro g3 c3 w3 ho3 hg3 hat3 hlt3; go_must (have HP3 := hide (HM.out.push (p := (false, 0, ⟨#[]⟩)) (o' := o - 1) ho3 hg3 (Pre.text @HM.out.pre (by omega) _) (by omega) (by simp [ByteArray.size]))); clear ho3 hg3 hat3 hlt3)
            go_roundw
            case rel => exact ⟨qs ++ [(false, 0, ⟨#[]⟩)], o - 1, k + 1, by congr 1; omega, by go_num, by omega, HP3.out⟩
            case measure => simp [intOf]; omega
          · have htl : 0 < ts.length := List.length_pos_iff.2 ht0
            have t0 : (0 : Int) < (ts.length : Int) := by omega
            have hpm := pickN_bounds z ts.length htl
            have HPK := hide (pick_any z ts.length w2 HRz.out.1 HRz.out.2 htl (by omega))
            obtain ⟨M, hM⟩ : ∃ M : Nat, pickN z ts.length = (M : Int) := ⟨(pickN z ts.length).toNat, by omega⟩
            rw [hM] at HPK hpm
            obtain ⟨b2, off2, rfl, hc2⟩ := (HT.out.keep HM.out.bel) M (by omega)
            have HU := hide (upTo_any (ts.getD M ⟨#[]⟩) 300 w2 (HSz.out _ (by
              have e : ts.getD M ⟨#[]⟩ = ts[M]'(by omega) := by simp [List.getD_eq_getElem?_getD, show M < ts.length by omega]
              rw [e]; exact List.getElem_mem _)) (by omega))
            have HUs := hide (upToN_size (ts.getD M ⟨#[]⟩) 300)
            generalize ts.getD M ⟨#[]⟩ = tt at *
            generalize upToN tt 300 = uu at *
            have m0 : (0 : Int) ≤ (M : Int) := by omega
            have m1 : (M : Int) < (ts.length : Int) := by omega
            clear hM hpm
            go_wp2_with fail
            refine HPK.out.mono ?_
            rintro e w4 ⟨rfl, rfl⟩
            go_wp2_with fail
            refine HU.out.mono ?_
            rintro e w5 ⟨rfl, rfl⟩
            go_wp2_with (at_builtin; go_must (refine wpList_append_lies _ rfl (.tmp 66) (.tmp 69) 22 rfl w.heap.size 24 i0 _ 3 32 Try.underlying22 hi hz0 hz1 hz2 rfl (by omega) (.slice av qs.length cv) qs.length (pcells qs) rfl (HM.out.own.alloc _) ⟨w5.heap.size, 0, none⟩ 1 1 (pcell (false, 0, uu)) (by rfl) (by rfl) (pcell_news w5 (false, 0, uu)) (by simp [pcell, Value.oneCell']) (by omega) (by unfold maxLen; omega) (by omega) (by have := HM.out.bel.size; simp; omega) _ rfl ?_); intro g3 c3 w3 ho3 hg3 hat3 hlt3; go_must (have HP3 := hide (HM.out.push (p := (false, 0, uu)) (o' := o - 1) ho3 hg3 (Pre.text @HM.out.pre (by omega) _) (by omega) (HUs.out))); clear ho3 hg3 hat3 hlt3)
            go_roundw
            case rel => exact ⟨qs ++ [(false, 0, uu)], o - 1, k + 1, by congr 1; omega, by go_num, by omega, HP3.out⟩
            case measure => simp [intOf]; omega
      · have c5 : (5 : Int) ≤ (N : Int) := by omega
        by_cases ht0 : ts = []
        · have t0 : (ts.length : Int) ≤ 0 := by simp [ht0]
          clear ht0
          go_wp2_with (at_builtin; go_must (refine wpList_append_lies _ rfl (.tmp 66) (.tmp 69) 22 rfl w.heap.size 24 i0 _ 3 32 Try.underlying22 hi hz0 hz1 hz2 rfl (by omega) (.slice av qs.length cv) qs.length (pcells qs) rfl (HM.out.own.alloc _) ⟨w2.heap.size, 0, none⟩ 1 1 (pcell (false, 0, ⟨#[]⟩)) (by rfl) (by rfl) (pcell_news w2 (false, 0, ⟨#[]⟩)) (by simp [pcell, Value.oneCell']) (by omega) (by unfold maxLen; omega) (by omega) (by have := HM.out.bel.size; simp; omega) _ rfl ?_); intro g3 c3 w3 ho3 hg3 hat3 hlt3; go_must (have HP3 := hide (HM.out.push (p := (false, 0, ⟨#[]⟩)) (o' := o - 1) ho3 hg3 (Pre.text @HM.out.pre (by omega) _) (by omega) (by simp [ByteArray.size]))); clear ho3 hg3 hat3 hlt3)
          go_roundw
          case rel => exact ⟨qs ++ [(false, 0, ⟨#[]⟩)], o - 1, k + 1, by congr 1; omega, by go_num, by omega, HP3.out⟩
          case measure => simp [intOf]; omega
        · have htl : 0 < ts.length := List.length_pos_iff.2 ht0
          have t0 : (0 : Int) < (ts.length : Int) := by omega
          have hpm := pickN_bounds z ts.length htl
          have HPK := hide (pick_any z ts.length w2 HRz.out.1 HRz.out.2 htl (by omega))
          obtain ⟨M, hM⟩ : ∃ M : Nat, pickN z ts.length = (M : Int) := ⟨(pickN z ts.length).toNat, by omega⟩
          rw [hM] at HPK hpm
          obtain ⟨b2, off2, rfl, hc2⟩ := (HT.out.keep HM.out.bel) M (by omega)
          have HU := hide (upTo_any (ts.getD M ⟨#[]⟩) 300 w2 (HSz.out _ (by
            have e : ts.getD M ⟨#[]⟩ = ts[M]'(by omega) := by simp [List.getD_eq_getElem?_getD, show M < ts.length by omega]
            rw [e]; exact List.getElem_mem _)) (by omega))
          have HUs := hide (upToN_size (ts.getD M ⟨#[]⟩) 300)
          generalize ts.getD M ⟨#[]⟩ = tt at *
          generalize upToN tt 300 = uu at *
          have m0 : (0 : Int) ≤ (M : Int) := by omega
          have m1 : (M : Int) < (ts.length : Int) := by omega
          clear hM hpm
          go_wp2_with fail
          refine HPK.out.mono ?_
          rintro e w4 ⟨rfl, rfl⟩
          go_wp2_with fail
          refine HU.out.mono ?_
          rintro e w5 ⟨rfl, rfl⟩
          go_wp2_with (at_builtin; go_must (refine wpList_append_lies _ rfl (.tmp 66) (.tmp 69) 22 rfl w.heap.size 24 i0 _ 3 32 Try.underlying22 hi hz0 hz1 hz2 rfl (by omega) (.slice av qs.length cv) qs.length (pcells qs) rfl (HM.out.own.alloc _) ⟨w5.heap.size, 0, none⟩ 1 1 (pcell (false, 0, uu)) (by rfl) (by rfl) (pcell_news w5 (false, 0, uu)) (by simp [pcell, Value.oneCell']) (by omega) (by unfold maxLen; omega) (by omega) (by have := HM.out.bel.size; simp; omega) _ rfl ?_); intro g3 c3 w3 ho3 hg3 hat3 hlt3; go_must (have HP3 := hide (HM.out.push (p := (false, 0, uu)) (o' := o - 1) ho3 hg3 (Pre.text @HM.out.pre (by omega) _) (by omega) (HUs.out))); clear ho3 hg3 hat3 hlt3)
          go_roundw
          case rel => exact ⟨qs ++ [(false, 0, uu)], o - 1, k + 1, by congr 1; omega, by go_num, by omega, HP3.out⟩
          case measure => simp [intOf]; omega
    · by_cases hk1 : k < zs.length
      · have b1 : (k : Int) < (zs.length : Int) := by omega
        by_cases ho1 : 0 < o
        · have b2 : (0 : Int) < (o : Int) := by omega
          have b3 : (400 : Int) ≤ (qs.length : Int) + (o : Int) := by omega
          go_wp2_with fail
          go_loopw [5, 6] (fun v ov wq => ∃ (rs : List Prt) (o2 : Nat), ov = .int .i64 (o2 : Int) ∧ Md w wq v rs o2) (fun _ ov _ => (intOf ov).toNat)
          case atStart => exact ⟨qs, o, rfl, HM.out⟩
          case round =>
            obtain ⟨rs, o2, rfl, hmd2⟩ := hrel
            obtain ⟨av2, cv2, rfl⟩ := hmd2.shape
            have HM2 := hide hmd2
            have hq5 : (rs.length : Int) + (o2 : Int) ≤ 400 := by have := hmd2.len; omega
            clear hmd2
            by_cases ho2 : 0 < o2
            · have p2 : (0 : Int) < (o2 : Int) := by omega
              go_wp2_with (at_builtin; go_must (refine wpList_append_lies _ rfl (.tmp 77) (.tmp 79) 22 rfl w.heap.size 24 i0 _ 3 32 Try.underlying22 hi hz0 hz1 hz2 rfl (by omega) (.slice av2 rs.length cv2) rs.length (pcells rs) rfl (HM2.out.own.alloc _) ⟨wr.heap.size, 0, none⟩ 1 1 (pcell (false, 0, ⟨#[]⟩)) (by rfl) (by rfl) (pcell_news wr (false, 0, ⟨#[]⟩)) (by simp [pcell, Value.oneCell']) (by omega) (by unfold maxLen; omega) (by omega) (by have := HM2.out.bel.size; simp; omega) _ rfl ?_); intro g3 c3 w3 ho3 hg3 hat3 hlt3; go_must (have HP3 := hide (HM2.out.push (p := (false, 0, ⟨#[]⟩)) (o' := o2 - 1) ho3 hg3 (Pre.text @HM2.out.pre (by omega) _) (by omega) (by simp [ByteArray.size]))); clear ho3 hg3 hat3 hlt3)
              go_roundw
              case rel => exact ⟨rs ++ [(false, 0, ⟨#[]⟩)], o2 - 1, by congr 1; omega, HP3.out⟩
              case measure => simp [intOf]; omega
            · obtain rfl : o2 = 0 := by omega
              go_wp2
              go_ret
              exact ⟨_, rs, rfl, HM2.out⟩
        · have b2 : (o : Int) ≤ 0 := by omega
          go_wp2_with fail
          go_loopw [5, 6] (fun v ov wq => ∃ (rs : List Prt) (o2 : Nat), ov = .int .i64 (o2 : Int) ∧ Md w wq v rs o2) (fun _ ov _ => (intOf ov).toNat)
          case atStart => exact ⟨qs, o, rfl, HM.out⟩
          case round =>
            obtain ⟨rs, o2, rfl, hmd2⟩ := hrel
            obtain ⟨av2, cv2, rfl⟩ := hmd2.shape
            have HM2 := hide hmd2
            have hq5 : (rs.length : Int) + (o2 : Int) ≤ 400 := by have := hmd2.len; omega
            clear hmd2
            by_cases ho2 : 0 < o2
            · have p2 : (0 : Int) < (o2 : Int) := by omega
              go_wp2_with (at_builtin; go_must (refine wpList_append_lies _ rfl (.tmp 77) (.tmp 79) 22 rfl w.heap.size 24 i0 _ 3 32 Try.underlying22 hi hz0 hz1 hz2 rfl (by omega) (.slice av2 rs.length cv2) rs.length (pcells rs) rfl (HM2.out.own.alloc _) ⟨wr.heap.size, 0, none⟩ 1 1 (pcell (false, 0, ⟨#[]⟩)) (by rfl) (by rfl) (pcell_news wr (false, 0, ⟨#[]⟩)) (by simp [pcell, Value.oneCell']) (by omega) (by unfold maxLen; omega) (by omega) (by have := HM2.out.bel.size; simp; omega) _ rfl ?_); intro g3 c3 w3 ho3 hg3 hat3 hlt3; go_must (have HP3 := hide (HM2.out.push (p := (false, 0, ⟨#[]⟩)) (o' := o2 - 1) ho3 hg3 (Pre.text @HM2.out.pre (by omega) _) (by omega) (by simp [ByteArray.size]))); clear ho3 hg3 hat3 hlt3)
              go_roundw
              case rel => exact ⟨rs ++ [(false, 0, ⟨#[]⟩)], o2 - 1, by congr 1; omega, HP3.out⟩
              case measure => simp [intOf]; omega
            · obtain rfl : o2 = 0 := by omega
              go_wp2
              go_ret
              exact ⟨_, rs, rfl, HM2.out⟩
      · have b1 : (zs.length : Int) ≤ (k : Int) := by omega
        go_wp2_with fail
        go_loopw [5, 6] (fun v ov wq => ∃ (rs : List Prt) (o2 : Nat), ov = .int .i64 (o2 : Int) ∧ Md w wq v rs o2) (fun _ ov _ => (intOf ov).toNat)
        case atStart => exact ⟨qs, o, rfl, HM.out⟩
        case round =>
          obtain ⟨rs, o2, rfl, hmd2⟩ := hrel
          obtain ⟨av2, cv2, rfl⟩ := hmd2.shape
          have HM2 := hide hmd2
          have hq5 : (rs.length : Int) + (o2 : Int) ≤ 400 := by have := hmd2.len; omega
          clear hmd2
          by_cases ho2 : 0 < o2
          · have p2 : (0 : Int) < (o2 : Int) := by omega
            go_wp2_with (at_builtin; go_must (refine wpList_append_lies _ rfl (.tmp 77) (.tmp 79) 22 rfl w.heap.size 24 i0 _ 3 32 Try.underlying22 hi hz0 hz1 hz2 rfl (by omega) (.slice av2 rs.length cv2) rs.length (pcells rs) rfl (HM2.out.own.alloc _) ⟨wr.heap.size, 0, none⟩ 1 1 (pcell (false, 0, ⟨#[]⟩)) (by rfl) (by rfl) (pcell_news wr (false, 0, ⟨#[]⟩)) (by simp [pcell, Value.oneCell']) (by omega) (by unfold maxLen; omega) (by omega) (by have := HM2.out.bel.size; simp; omega) _ rfl ?_); intro g3 c3 w3 ho3 hg3 hat3 hlt3; go_must (have HP3 := hide (HM2.out.push (p := (false, 0, ⟨#[]⟩)) (o' := o2 - 1) ho3 hg3 (Pre.text @HM2.out.pre (by omega) _) (by omega) (by simp [ByteArray.size]))); clear ho3 hg3 hat3 hlt3)
            go_roundw
            case rel => exact ⟨rs ++ [(false, 0, ⟨#[]⟩)], o2 - 1, by congr 1; omega, HP3.out⟩
            case measure => simp [intOf]; omega
          · obtain rfl : o2 = 0 := by omega
            go_wp2
            go_ret
            exact ⟨_, rs, rfl, HM2.out⟩
end Go.Proofs.Ytoafiieciiijbaa
