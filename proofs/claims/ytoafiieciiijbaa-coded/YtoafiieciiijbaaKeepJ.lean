/-
  OUR OWN: the walk of canopykeep.Coded.
-/
import Derived.Test.YtoafiieciiijbaaKeepI
namespace Go.Proofs.Ytoafiieciiijbaa
open Go.RowKit
attribute [local go_sem ↓] Go.wp_at_zero Go.wp_at_succ

theorem dec_err {s : ByteArray} {x : Int} (h : decN s = .error x) : x ≠ 0 := by
  unfold decN at h
  split at h
  · injection h with h; omega
  · split at h
    · rename_i y hy
      injection h with h
      exact h ▸ readN_err s 8 0 s.size y hy
    · split at h
      · injection h with h; omega
      · split at h
        · injection h with h; omega
        · cases h

theorem own_shape {w : World} {base : Nat} {v : Value} {qs : List Prt} (h : w.ownsRow base 24 3 v qs.length (pcells qs)) : ∃ ao c, v = .slice ao qs.length c := by
  rcases h.2 with ⟨rfl, h0⟩ | ⟨g, c, cur, rfl, _⟩
  · exact ⟨none, 0, by rw [h0]⟩
  · exact ⟨_, _, rfl⟩
theorem pcells_icells (qs : List Prt) : pcells qs = icells (qs.map toI) := by
  induction qs with
  | nil => rfl
  | cons p r ih =>
    have e1 : pcells (p :: r) = pcell p ++ pcells r := by simp [pcells]
    have e2 : icells ((p :: r).map toI) = icell (toI p) ++ icells (r.map toI) := by simp [icells]
    rw [e1, e2, ih]; rfl
theorem own_iprts {w : World} {base c : Nat} {ao : Option Addr} {qs : List Prt} (h : w.ownsRow base 24 3 (.slice ao qs.length c) qs.length (pcells qs)) : IPrts w ao (qs.map toI) := by
  intro k hk
  obtain ⟨n0, n1, n2⟩ := icells_nth (qs.map toI) k hk
  rw [← pcells_icells] at n0 n1 n2
  rcases h.2 with ⟨_, h0⟩ | ⟨g, c', cur, hh, _⟩
  · rw [List.length_map] at hk; omega
  · injection hh with hh1 _ _
    have hc : ∀ j u, (pcells qs)[j]? = some u → w.cell? ⟨g, 0 + j, none⟩ = some u := fun j u hu => by
      have h2 := h.cells (g := g) (by rw [hh1]; rfl) j u hu
      rwa [addr_add] at h2
    exact ⟨g, 0, hh1, hc _ _ n0, by rw [Nat.add_assoc]; exact hc _ _ n1, by rw [Nat.add_assoc]; exact hc _ _ n2⟩
theorem tot_small : ∀ (qs : List Prt), (∀ p ∈ qs, p.2.2.size ≤ 300) → totP (qs.map toI) ≤ qs.length * 308
  | [], _ => by simp [totP]
  | p :: r, h => by
    have ih := tot_small r (fun q hq => h q (List.mem_cons_of_mem _ hq))
    have h0 := h p (List.mem_cons_self ..)
    have e : (toI p).2.2.size = p.2.2.size := rfl
    rw [List.map_cons, totP_cons, List.length_cons]
    omega
theorem mem_toI {qs : List Prt} {B : Nat} (h : ∀ p ∈ qs, p.2.2.size ≤ B) : ∀ p ∈ qs.map toI, p.2.2.size ≤ B := by
  intro p hp
  obtain ⟨q, hq, rfl⟩ := List.mem_map.1 hp
  exact h q hq

set_option maxHeartbeats 8000000 in
set_option maxRecDepth 20000 in
theorem coded_all (ao : Option Addr) (cap : Nat) (zs : List Int) (bo : Option Addr) (bcap : Nat) (ts : List ByteArray) (s : ByteArray) (w : World) (hz : zs.length ≤ 9223372036854775807) (hc : Ints w ao zs) (hr : ∀ z ∈ zs, -9223372036854775808 ≤ z ∧ z ≤ 9223372036854775807) (ht : ts.length ≤ 9223372036854775807) (hts : Strs w bo ts) (hsz : ∀ t ∈ ts, t.size ≤ 9223372036854775807) (hs : s.size ≤ 9223372036854775807) :
    Calls Try.prog 6 #[.slice ao zs.length cap, .slice bo ts.length bcap, .string s] w fun e w' => e = .returned (.bool true) ∧ Below w.heap.size w w' := by
  have HM : Hid (∀ W, Below w.heap.size w W → Calls Try.prog 23 #[.slice ao zs.length cap, .slice bo ts.length bcap] W fun e w' => MdPost W e w') :=
    fun W hW => made_any ao cap zs bo bcap ts W hz (hc.keep hW) hr ht (hts.keep hW) hsz
  have HS := hide hs
  clear hc hr hts hsz hs hz ht
  go_enter Try.func6, Try.ntmps6
  go_wp2_with fail
  refine (coded_any w).mono ?_
  rintro e w1 ⟨rfl, hb1⟩
  have HB1 := hide hb1
  clear hb1
  go_wp2_with fail
  refine (HM.out w1 HB1.out).mono ?_
  rintro e w2 ⟨v, qs, rfl, hmd⟩
  obtain ⟨av, cv, rfl⟩ := hmd.shape
  have hq4 : qs.length ≤ 400 := by have := hmd.len; omega
  have hIP : IPrts w2 av (qs.map toI) := own_iprts hmd.own
  have HB2 : Hid (Below w.heap.size w w2) := HB1.out.trans (hmd.bel.mono HB1.out.size)
  obtain ⟨c, hfc⟩ := Pre.done @hmd.pre textC listC
  obtain ⟨m, hfm⟩ := Pre.done @hmd.pre msT msL
  have hmc : MC m c := (fold_MC _ _ _ hfm hfc).2 0 m c rfl rfl
  have htot : totP (qs.map toI) < 16777216 := by have := tot_small qs hmd.sz; omega
  have HSZ : Hid (∀ W, Below w2.heap.size w2 W → Calls Try.prog 24 #[.slice av qs.length cv, .int .i64 0] W fun e w' => e = .returned (.tuple #[.int .i64 (c.size : Int), .int .i64 (qs.length : Int), .int .i64 (m.2 : Int)]) ∧ Below W.heap.size W w') := by
    intro W hW
    have h := size_any av cv (qs.map toI) (by rw [List.length_map]; exact hq4) htot qs.length 0 W c m [] [] (by rw [List.length_map]; omega) (by rw [List.drop_zero]; exact hfc) (by rw [List.drop_zero]; exact hfm) (hIP.keep hW (Nat.le_refl _))
    rw [List.length_map] at h
    refine h.mono ?_
    rintro e w' ⟨a', rfl, _, h2, h3, _, h5⟩
    have h4 := foldS_empty h3
    have h6 : (qs.map toI).length ≤ a' := List.drop_eq_nil_iff.1 h4
    rw [List.length_map] at h2 h6
    obtain rfl : a' = qs.length := by omega
    exact ⟨rfl, h5⟩
  have HEN : Hid (∀ W, Below w2.heap.size w2 W → Calls Try.prog 8 #[.slice av qs.length cv] W fun e w' => e = .returned (.tuple #[.string (if 8 < m.2 then ((⟨#[]⟩, 6) : ByteArray × Int) else if 6000 < c.size then (⟨#[]⟩, 1) else (c, 0)).1, .int .i64 (if 8 < m.2 then ((⟨#[]⟩, 6) : ByteArray × Int) else if 6000 < c.size then (⟨#[]⟩, 1) else (c, 0)).2]) ∧ Below W.heap.size W w') := by
    intro W hW
    have h := cEncode_any av cv (qs.map toI) W (by rw [List.length_map]; omega) (hIP.keep hW (Nat.le_refl _)) (fun p hp => Nat.le_trans (mem_toI hmd.sz p hp) (by omega))
    rw [encP_ok (by rw [List.length_map]; exact hq4) hfm hfc, List.length_map] at h
    exact h
  have HDE : Hid (m.2 ≤ 8 → c.size ≤ 6000 → decN c = .ok qs) := fun h8 h6 => dec_enc qs c m hq4 hfc hfm h8 (by unfold MC at hmc; omega)
  have HIP := hide hIP
  have hqI : (qs.length : Int) ≤ 400 := by omega
  clear hmd hIP hfc hfm hmc htot
  obtain ⟨mz, dp⟩ := m
  simp only at HSZ HEN HDE
  go_wp2_with fail
  refine (HSZ.out w2 (Below.refl _ _)).mono ?_
  rintro e w3 ⟨rfl, hb3⟩
  have HB3 : Hid (Below w2.heap.size w2 w3) := hb3
  clear hb3
  go_wp2_with fail
  refine (HEN.out w3 HB3.out).mono ?_
  rintro e w4 ⟨rfl, hb4⟩
  have HB4 : Hid (Below w2.heap.size w2 w4) := HB3.out.trans (hb4.mono HB3.out.size)
  have HBQ : Hid (Below w.heap.size w w4) := HB2.out.trans (HB4.out.mono HB2.out.size)
  clear hb4
  by_cases h8 : 8 < dp
  · rw [if_pos h8]
    have c8 : (8 : Int) < (dp : Int) := by omega
    cases hdn : decN s with
    | error x =>
      have hx : (x != 0) = true := by simpa using dec_err hdn
      have hD := cDecode_any s w4 HS.out
      rw [hdn] at hD
      have HD := hide hD
      clear hD hdn
      go_wp2_with fail
      refine HD.out.mono ?_
      rintro e w6 ⟨rfl, hb6⟩
      go_wp2
      go_ret
      exact ⟨rfl, HBQ.out.trans (hb6.mono HBQ.out.size)⟩
    | ok rs =>
      obtain ⟨he1, he2, _, he4⟩ := enc_dec s rs hdn
      have hD := cDecode_any s w4 HS.out
      rw [hdn] at hD
      have HD := hide hD
      have HE1 := hide (And.intro he1 (And.intro he2 he4))
      clear hD hdn he1 he2 he4
      go_wp2_with fail
      refine HD.out.mono ?_
      rintro e w6 ⟨v6, rfl, ho6, hb6⟩
      obtain ⟨a6, c6, rfl⟩ := own_shape ho6
      have HB6 : Hid (Below w.heap.size w w6) := HBQ.out.trans (hb6.mono HBQ.out.size)
      have hE6 := cEncode_any a6 c6 (rs.map toI) w6 (by rw [List.length_map]; have := HE1.out.2.1; omega) (own_iprts ho6) (fun p hp => Nat.le_trans (HE1.out.2.2 p hp) (by omega))
      rw [List.length_map, HE1.out.1] at hE6
      have HE6 := hide hE6
      clear hE6 ho6 hb6
      go_wp2_with fail
      refine HE6.out.mono ?_
      rintro e w7 ⟨rfl, hb7⟩
      go_wp2
      go_ret
      exact ⟨rfl, HB6.out.trans (hb7.mono HB6.out.size)⟩
  · rw [if_neg h8]
    have c8 : (dp : Int) ≤ 8 := by omega
    by_cases h6 : 6000 < c.size
    · rw [if_pos h6]
      have c6 : (6000 : Int) < (c.size : Int) := by omega
      cases hdn : decN s with
      | error x =>
        have hx : (x != 0) = true := by simpa using dec_err hdn
        have hD := cDecode_any s w4 HS.out
        rw [hdn] at hD
        have HD := hide hD
        clear hD hdn
        go_wp2_with fail
        refine HD.out.mono ?_
        rintro e w6 ⟨rfl, hb6⟩
        go_wp2
        go_ret
        exact ⟨rfl, HBQ.out.trans (hb6.mono HBQ.out.size)⟩
      | ok rs =>
        obtain ⟨he1, he2, _, he4⟩ := enc_dec s rs hdn
        have hD := cDecode_any s w4 HS.out
        rw [hdn] at hD
        have HD := hide hD
        have HE1 := hide (And.intro he1 (And.intro he2 he4))
        clear hD hdn he1 he2 he4
        go_wp2_with fail
        refine HD.out.mono ?_
        rintro e w6 ⟨v6, rfl, ho6, hb6⟩
        obtain ⟨a6, c6, rfl⟩ := own_shape ho6
        have HB6 : Hid (Below w.heap.size w w6) := HBQ.out.trans (hb6.mono HBQ.out.size)
        have hE6 := cEncode_any a6 c6 (rs.map toI) w6 (by rw [List.length_map]; have := HE1.out.2.1; omega) (own_iprts ho6) (fun p hp => Nat.le_trans (HE1.out.2.2 p hp) (by omega))
        rw [List.length_map, HE1.out.1] at hE6
        have HE6 := hide hE6
        clear hE6 ho6 hb6
        go_wp2_with fail
        refine HE6.out.mono ?_
        rintro e w7 ⟨rfl, hb7⟩
        go_wp2
        go_ret
        exact ⟨rfl, HB6.out.trans (hb7.mono HB6.out.size)⟩
    · rw [if_neg h6]
      have c6 : (c.size : Int) ≤ 6000 := by omega
      have hD := cDecode_any c w4 (by omega)
      rw [HDE.out (by omega) (by omega)] at hD
      have HD := hide hD
      clear hD
      go_wp2_with fail
      refine HD.out.mono ?_
      rintro e w5 ⟨v5, rfl, ho5, hb5⟩
      obtain ⟨a5, c5, rfl⟩ := own_shape ho5
      have HI5 : Hid (IPrts w5 a5 (qs.map toI)) := own_iprts ho5
      have HJ5 : Hid (IPrts w5 av (qs.map toI)) := HIP.out.keep (HB4.out.trans (hb5.mono HB4.out.size)) (Nat.le_refl _)
      have HB5 : Hid (Below w.heap.size w w5) := HBQ.out.trans (hb5.mono HBQ.out.size)
      clear ho5 hb5 HD
      go_wp2_with fail
      go_loopw [16] (fun i wq => ∃ j : Nat, j ≤ qs.length ∧ i = .int .i64 (j : Int) ∧ ∃ n, wq = w5.drewN n) (fun i _ => qs.length - (intOf i).toNat)
      case atStart => exact ⟨0, Nat.zero_le _, rfl, 0, rfl⟩
      case round =>
        obtain ⟨j, hj, rfl, n, rfl⟩ := hrel
        by_cases hjl : j < qs.length
        · obtain ⟨b1, off1, rfl, p0, p1, p2⟩ := HI5.out j (by rw [List.length_map]; exact hjl)
          obtain ⟨b2, off2, rfl, r0, r1, r2⟩ := HJ5.out j (by rw [List.length_map]; exact hjl)
          generalize (qs.map toI).getD j (false, 0, ⟨#[]⟩) = p at *
          obtain ⟨l, k, d⟩ := p
          simp only at p0 p1 p2 r0 r1 r2
          have j0 : (0 : Int) ≤ (j : Int) := by omega
          have j1 : (j : Int) < (qs.length : Int) := by omega
          go_wp2
          go_quiet (fail)
          go_wp2
          go_roundw
          case rel => exact ⟨j + 1, by omega, by go_num, n + nq, rfl⟩
          case measure => simp [intOf]; omega
        · have j1 : (qs.length : Int) ≤ (j : Int) := by omega
          have HBQ : Hid (Below w.heap.size w (w5.drewN n)) := below_drewN HB5.out n
          generalize w5.drewN n = W5 at *
          cases hdn : decN s with
          | error x =>
            have hx : (x != 0) = true := by simpa using dec_err hdn
            have hD := cDecode_any s W5 HS.out
            rw [hdn] at hD
            have HD := hide hD
            clear hD hdn
            go_wp2_with fail
            refine HD.out.mono ?_
            rintro e w6 ⟨rfl, hb6⟩
            go_wp2
            go_ret
            exact ⟨rfl, HBQ.out.trans (hb6.mono HBQ.out.size)⟩
          | ok rs =>
            obtain ⟨he1, he2, _, he4⟩ := enc_dec s rs hdn
            have hD := cDecode_any s W5 HS.out
            rw [hdn] at hD
            have HD := hide hD
            have HE1 := hide (And.intro he1 (And.intro he2 he4))
            clear hD hdn he1 he2 he4
            go_wp2_with fail
            refine HD.out.mono ?_
            rintro e w6 ⟨v6, rfl, ho6, hb6⟩
            obtain ⟨a6, c6, rfl⟩ := own_shape ho6
            have HB6 : Hid (Below w.heap.size w w6) := HBQ.out.trans (hb6.mono HBQ.out.size)
            have hE6 := cEncode_any a6 c6 (rs.map toI) w6 (by rw [List.length_map]; have := HE1.out.2.1; omega) (own_iprts ho6) (fun p hp => Nat.le_trans (HE1.out.2.2 p hp) (by omega))
            rw [List.length_map, HE1.out.1] at hE6
            have HE6 := hide hE6
            clear hE6 ho6 hb6
            go_wp2_with fail
            refine HE6.out.mono ?_
            rintro e w7 ⟨rfl, hb7⟩
            go_wp2
            go_ret
            exact ⟨rfl, HB6.out.trans (hb7.mono HB6.out.size)⟩
end Go.Proofs.Ytoafiieciiijbaa
