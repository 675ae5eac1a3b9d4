/-
  OUR OWN: codes: the reference's Encode.
-/
import Derived.Test.YtoafiieciiijbaaEncL
namespace Go.Proofs.Ytoafiieciiijbaa
open Go.RowKit
attribute [local go_sem ↓] Go.wp_at_zero Go.wp_at_succ

set_option maxHeartbeats 2000000 in
set_option maxRecDepth 20000 in
theorem rEncode_any (ao : Option Addr) (cap : Nat) (ps : List IPrt) (w : World) (hm : ps.length ≤ 9223372036854775807) (hp : IPrts w ao ps) (hs : ps.length ≤ 400 → totP ps < 72057594037927936) :
    Calls Try.prog 9 #[.slice ao ps.length cap] w fun e w' => e = .returned (.tuple #[.string (encP ps).1, .int .i64 (encP ps).2]) ∧ Below w.heap.size w w' := by
  by_cases h1 : 400 < ps.length
  · have HE : Hid (encP ps = (⟨#[]⟩, 1)) := by show _ = _; unfold encP; rw [if_pos h1]
    have c1 : (400 : Int) < (ps.length : Int) := by omega
    go_enter Try.func9, Try.ntmps9
    go_wp2
    go_ret2
    exact ⟨by rw [HE.out]; rfl, Below.refl _ _⟩
  · have hn : ps.length ≤ 400 := by omega
    have c1 : (ps.length : Int) ≤ 400 := by omega
    have HB := hide (built_any ao cap ps hn ps.length 0 w (Nat.zero_le _) (by omega) hp)
    have HN := hide hn
    have HT := hide (hs hn)
    clear hp hs hm h1 hn
    go_enter Try.func9, Try.ntmps9
    go_wp2_with fail
    refine HB.out.mono ?_
    rintro e w1 h1
    rcases h1 with ⟨qs, tl, c0, d1, c2, hd, rfl, hit, hb⟩ | ⟨x6, rfl, hno, hb⟩
    · rw [List.drop_zero] at hd
      obtain ⟨l0, b0, ao0, lo0, lc0, hsh⟩ := hit.shape
      simp only [List.cons.injEq, and_true] at hsh
      obtain ⟨rfl, rfl, rfl⟩ := hsh
      obtain ⟨vm, hvm⟩ := ItIs.val _ _ _ hit msT msL
      obtain ⟨vc, hvc⟩ := ItIs.val _ _ _ hit textC listC
      have hlen : ps.length = qs.length + tl.length := by rw [hd, List.length_append, List.length_map]
      rw [Nat.zero_add]
      by_cases htl : tl = []
      · subst htl
        rw [List.append_nil] at hd
        have hql : qs.length = ps.length := by simp at hlen; omega
        have hDP := fun W (hW : Below w1.heap.size w1 W) => depth_any ps.length (by have := HN.out; omega) W (fun k => w.heap.size ≤ k) _ _ _ qs (hit.keep (fun k hk hlt => ⟨hW.block k hlt, hk⟩))
        have hCP := fun W (hW : Below w1.heap.size w1 W) => code_any ps.length W (fun k => w.heap.size ≤ k) _ _ _ qs (hit.keep (fun k hk hlt => ⟨hW.block k hlt, hk⟩)) (by rw [← hd]; exact HT.out)
        have HDP := hide hDP
        have HCP := hide hCP
        have HFn : Hid (∀ m c, Vl msT msL qs m → Vl textC listC qs c → encP ps = if 8 < m.2 then (⟨#[]⟩, 6) else if 6000 < c.size then (⟨#[]⟩, 1) else (c, 0)) := by
          intro m c h1 h2
          have e1 := h1 []
          have e2 := h2 []
          rw [foldT_nil, ← hd] at e1 e2
          exact encP_ok HN.out e1 e2
        have HVC := hide hvc
        have HB1 := hide hb
        clear hDP hCP hvm hvc hit hb hd hlen
        rw [hql]
        clear hql
        go_wp2_with fail
        refine (HDP.out _ (below_alloc _ _)).mono ?_
        rintro e w2 ⟨m, hv2, hm2, rfl, hb2⟩
        have HB2 : Hid (Below w1.heap.size w1 w2) := (below_alloc w1 _).trans (hb2.mono (by simp))
        have hq2 : w2.heap[w1.heap.size]? = some (.cells #[.bool l0, .string b0, .slice ao0 lo0 lc0] 66 (0, 0)) := by rw [hb2.block _ (by simp)]; exact heap_alloc_new w1 _
        have z0 : w2.cell? ⟨w1.heap.size, 0, none⟩ = some (.bool l0) := cell_of_row w2 _ 0 _ _ (0, 0) hq2
        have z1 : w2.cell? ⟨w1.heap.size, 1, none⟩ = some (.string b0) := cell_of_row w2 _ 1 _ _ (0, 0) hq2
        have z2 : w2.cell? ⟨w1.heap.size, 2, none⟩ = some (.slice ao0 lo0 lc0) := cell_of_row w2 _ 2 _ _ (0, 0) hq2
        have HV2 := hide hv2
        have hm3 : m.2 ≤ 400 := by have := HN.out; omega
        clear hb2 hq2 hv2 hm2
        obtain ⟨x, y⟩ := m
        simp only at hm3
        by_cases h8 : 8 < y
        · have HE : Hid (encP ps = (⟨#[]⟩, 6)) := by show _ = _; rw [HFn.out _ _ HV2.out HVC.out, if_pos h8]
          have c8 : (8 : Int) < (y : Int) := by omega
          go_wp2
          go_ret2
          exact ⟨by rw [HE.out]; rfl, HB1.out.trans (HB2.out.mono HB1.out.size)⟩
        · have c8 : (y : Int) ≤ 8 := by omega
          have HE0 : Hid (∀ c, Vl textC listC qs c → encP ps = if 6000 < c.size then (⟨#[]⟩, 1) else (c, 0)) := fun c hc => by rw [HFn.out _ _ HV2.out hc, if_neg h8]
          clear h8
          go_wp2_with fail
          refine (HCP.out _ HB2.out).mono ?_
          rintro e w3 ⟨cd, hv3, rfl, hb3⟩
          have HB3 : Hid (Below w.heap.size w w3) := HB1.out.trans ((HB2.out.trans (hb3.mono HB2.out.size)).mono HB1.out.size)
          have HE1 := hide (HE0.out cd hv3)
          clear hb3
          by_cases h6 : 6000 < cd.size
          · have HE : Hid (encP ps = (⟨#[]⟩, 1)) := by show _ = _; rw [HE1.out, if_pos h6]
            have c6 : (6000 : Int) < (cd.size : Int) := by omega
            go_wp2
            go_ret2
            exact ⟨by rw [HE.out]; rfl, HB3.out⟩
          · have HE : Hid (encP ps = (cd, 0)) := by show _ = _; rw [HE1.out, if_neg h6]
            have c6 : (cd.size : Int) ≤ 6000 := by omega
            go_wp2
            go_ret2
            exact ⟨by rw [HE.out]; rfl, HB3.out⟩
      · have htl2 : 0 < tl.length := List.length_pos_iff.2 htl
        have HE : Hid (encP ps = (⟨#[]⟩, 2)) := encP_item HN.out (fun x hx => by
          rw [hd, hvm.one tl] at hx
          cases hf : foldS msT msL tl with
          | none => rw [hf] at hx; cases hx
          | some st =>
            rw [hf] at hx
            simp only [Option.map_some, Option.some.injEq, List.cons.injEq] at hx
            rw [hx.2] at hf
            exact htl (foldS_empty hf))
        have hq1 : ((qs.length : Int) != (ps.length : Int)) = true := by simp; omega
        have HB1 := hide hb
        clear hvm hvc hit hb hd hlen htl htl2
        go_wp2
        go_ret2
        exact ⟨by rw [HE.out]; rfl, HB1.out.alloc HB1.out.size _⟩
    · rw [List.drop_zero] at hno
      have HE : Hid (encP ps = (⟨#[]⟩, 2)) := encP_item HN.out (fun x hx => hno msT msL x [] hx)
      have HB1 := hide hb
      clear hno hb
      unfold it0
      go_wp2
      go_ret2
      exact ⟨by rw [HE.out]; rfl, HB1.out.alloc HB1.out.size _⟩
end Go.Proofs.Ytoafiieciiijbaa
