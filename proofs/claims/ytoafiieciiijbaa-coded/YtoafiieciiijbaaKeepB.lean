/-
  OUR OWN: the walk of canopykeep.Packed.
-/
import Derived.Test.YtoafiieciiijbaaKeepA
namespace Go.Proofs.Ytoafiieciiijbaa
open Go.RowKit
attribute [local go_sem ↓] Go.wp_at_zero Go.wp_at_succ

theorem byte_of (n : Int) (h0 : 0 ≤ n) (h1 : n < 256) : ((UInt8.ofNat n.toNat).toNat : Int) = n := by
  rw [UInt8.toNat_ofNat_of_lt' (show n.toNat < 256 by omega)]; omega
theorem nibs_pairUp : ∀ (n : Nat) (zs : List Int), zs.length = 2 * n → (∀ z ∈ zs, 0 ≤ z ∧ z ≤ 15) → nibs ((pairUp zs).map (fun n => UInt8.ofNat n.toNat)) = zs
  | 0, [], _, _ => rfl
  | n + 1, a :: b :: r, h, hb => by
    have ha := hb a (by simp)
    have hb2 := hb b (by simp)
    have e := byte_of (16 * a + b) (by omega) (by omega)
    simp only [pairUp, List.map_cons, nibs]
    rw [nibs_pairUp n r (by simp at h; omega) (fun z hz => hb z (by simp [hz])), e]
    congr 1
    · omega
    · congr 1; omega
  | n + 1, [], h, _ => by simp at h
  | n + 1, [_], h, _ => by simp at h; omega
theorem isP_all {zs : List Int} (h : isP zs = true) : ∀ z ∈ zs, 0 ≤ z ∧ z ≤ 15 := by
  simp [isP] at h
  intro z hz
  have := h.2 z hz
  simpa [nib] using this
theorem mk_cases (leaf : Bool) : (mk leaf = 0 ∧ leaf = false) ∨ (mk leaf = 2 ∧ leaf = true) := by cases leaf <;> simp [mk]
theorem mapbytes_length (l : List Int) : (l.map (fun n => UInt8.ofNat n.toNat)).length = l.length := by simp

theorem unp_len {l : List UInt8} {p : List Int} {lf : Bool} (h : unpL l = some (p, lf)) : p.length ≤ 128 := by
  cases l with
  | nil => simp [unpL] at h
  | cons b r =>
    have hl := nibs_length r
    simp only [unpL] at h
    split at h
    · split at h
      · rename_i hc
        simp only [Option.some.injEq, Prod.mk.injEq] at h
        rw [← h.1]; simp [hl]; omega
      · cases h
    · split at h
      · rename_i hc
        simp only [Option.some.injEq, Prod.mk.injEq] at h
        rw [← h.1, hl]; omega
      · cases h
/-- a path's code is read back -/
theorem unp_pack {zs : List Int} (leaf : Bool) (h : isP zs = true) : unpL (codeOf leaf zs).data.toList = some (zs, leaf) ∧ (codeOf leaf zs).size = zs.length / 2 + 1 := by
  have hl := isP_len h
  have ha := isP_all h
  have hd : (codeOf leaf zs).data.toList = (pairUp (halvesOf leaf zs)).map (fun n => UInt8.ofNat n.toNat) := by simp [codeOf, strOfNums]
  by_cases ho : zs.length % 2 = 1
  · cases zs with
    | nil => simp at ho
    | cons z r =>
      have hz := ha z (by simp)
      have hr : r.length = 2 * (r.length / 2) := by simp at ho; omega
      rw [halvesOf_odd ho] at hd
      simp only [pairUp, List.map_cons] at hd
      have hpl := pairUp_length (r.length / 2) r hr
      refine ⟨?_, ?_⟩
      · rw [hd]
        have hm := mk_cases leaf
        have e := byte_of (16 * (mk leaf + 1) + z) (by rcases hm with h | h <;> omega) (by rcases hm with h | h <;> omega)
        have hn := nibs_pairUp (r.length / 2) r hr (fun x hx => ha x (by simp [hx]))
        generalize UInt8.ofNat (16 * (mk leaf + 1) + z).toNat = b at *
        simp only [unpL]
        rw [if_pos (by rcases hm with h | h <;> omega), if_pos ⟨by rcases hm with h | h <;> omega, by rw [mapbytes_length, hpl]; simp at hl; omega⟩]
        simp only [Option.some.injEq, Prod.mk.injEq]
        refine ⟨?_, ?_⟩
        · rw [hn]; congr 1; rcases hm with h | h <;> omega
        · rcases hm with ⟨h1, h2⟩ | ⟨h1, h2⟩
          · rw [h2]; simp; omega
          · rw [h2]; simp; omega
      · rw [Lib.size_eq, hd]
        simp only [List.length_cons, mapbytes_length, hpl]
        simp at ho
        omega
  · have ho2 : zs.length % 2 = 0 := by omega
    have hr : zs.length = 2 * (zs.length / 2) := by omega
    rw [halvesOf_even ho2] at hd
    simp only [pairUp, List.map_cons] at hd
    have hpl := pairUp_length (zs.length / 2) zs hr
    refine ⟨?_, ?_⟩
    · rw [hd]
      have hm := mk_cases leaf
      have e := byte_of (16 * mk leaf + 0) (by rcases hm with h | h <;> omega) (by rcases hm with h | h <;> omega)
      have hn := nibs_pairUp (zs.length / 2) zs hr ha
      generalize UInt8.ofNat (16 * mk leaf + 0).toNat = b at *
      simp only [unpL]
      rw [if_neg (by rcases hm with h | h <;> omega), if_pos ⟨by rcases hm with h | h <;> omega, by rcases hm with h | h <;> omega, by rw [mapbytes_length, hpl]; omega⟩]
      simp only [Option.some.injEq, Prod.mk.injEq]
      refine ⟨hn, ?_⟩
      rcases hm with ⟨h1, h2⟩ | ⟨h1, h2⟩
      · rw [h2]; simp; omega
      · rw [h2]; simp; omega
    · rw [Lib.size_eq, hd]
      simp only [List.length_cons, mapbytes_length, hpl]
/-- what can be read is the code of what was read -/
theorem pack_unp {s : ByteArray} {p : List Int} {lf : Bool} (hu : unpL s.data.toList = some (p, lf)) : packR lf p = (s, 0) := by
  cases hl : s.data.toList with
  | nil => rw [hl] at hu; simp [unpL] at hu
  | cons b r =>
    rw [hl] at hu
    have hs := str_of_cons hl
    have hb := b.toNat_lt
    simp only [unpL] at hu
    by_cases ho : b.toNat / 16 % 2 = 1
    · rw [if_pos ho] at hu
      by_cases hc : b.toNat / 16 ≤ 3 ∧ r.length ≤ 63
      · rw [if_pos hc] at hu
        simp only [Option.some.injEq, Prod.mk.injEq] at hu
        obtain ⟨rfl, rfl⟩ := hu
        rw [code_odd b r _ hc.2, hs]
        congr 2
        have e : (16 * (mk (decide (2 ≤ b.toNat / 16)) + 1) + (b.toNat : Int) % 16).toNat = b.toNat := by
          by_cases h2 : 2 ≤ b.toNat / 16
          · simp only [h2, decide_true, mk, if_true]; omega
          · simp only [h2, decide_false, mk]; simp; omega
        rw [e]; simp
      · rw [if_neg hc] at hu; cases hu
    · rw [if_neg ho] at hu
      by_cases hc : b.toNat / 16 ≤ 3 ∧ b.toNat % 16 = 0 ∧ r.length ≤ 64
      · rw [if_pos hc] at hu
        simp only [Option.some.injEq, Prod.mk.injEq] at hu
        obtain ⟨rfl, rfl⟩ := hu
        rw [code_even r _ hc.2.2, hs]
        congr 2
        have e : (16 * mk (decide (2 ≤ b.toNat / 16))).toNat = b.toNat := by
          by_cases h2 : 2 ≤ b.toNat / 16
          · simp only [h2, decide_true, mk, if_true]; omega
          · simp only [h2, decide_false, mk]; simp; omega
        rw [e]; simp
      · rw [if_neg hc] at hu; cases hu

/-- which of n things -/
def pickN (c : Int) (n : Nat) : Int := if c < 0 then (-(c + 1)) % n else c % n
theorem pickN_bounds (c : Int) (n : Nat) (hn : 0 < n) : 0 ≤ pickN c n ∧ pickN c n < n := by
  unfold pickN
  have hn2 : (n : Int) ≠ 0 := by omega
  split
  · exact ⟨Int.emod_nonneg _ hn2, Int.emod_lt_of_pos _ (by omega)⟩
  · exact ⟨Int.emod_nonneg _ hn2, Int.emod_lt_of_pos _ (by omega)⟩
set_option maxRecDepth 20000 in
theorem pick_any (c : Int) (n : Nat) (w : World) (hc : -9223372036854775808 ≤ c) (hc2 : c ≤ 9223372036854775807) (hn : 0 < n) (hn2 : n ≤ 9223372036854775807) :
    Calls Try.prog 25 #[.int .i64 c, .int .i64 (n : Int)] w fun e w' => e = .returned (.int .i64 (pickN c n)) ∧ w' = w := by
  by_cases h : c < 0
  · have HE : Hid (pickN c n = (-(c + 1)) % n) := by show _ = _; simp [pickN, h]
    go_enter Try.func25, Try.ntmps25
    go_wp2
    go_ret
    refine ⟨?_, rfl⟩
    rw [HE.out]
    have e : -(c + 1).tmod (n : Int) = (-(c + 1)) % (n : Int) := by rw [← Int.neg_tmod, Int.tmod_eq_emod_of_nonneg (by omega)]
    exact congrArg (fun x => Ending.returned (Value.int IntKind.i64 x)) e
  · have HE : Hid (pickN c n = c % n) := by show _ = _; simp [pickN, h]
    have h0 : 0 ≤ c := by omega
    have h1 : (0 : Int) < (n : Int) := by omega
    go_enter Try.func25, Try.ntmps25
    go_wp2
    go_ret
    refine ⟨?_, rfl⟩
    rw [HE.out]
    first
    | rfl
    | exact congrArg (fun x => Ending.returned (Value.int IntKind.i64 x)) (Int.tmod_eq_emod_of_nonneg h0)

/-- the path that is put together -/
def pickP (zs : List Int) : List Int := (zs.take 128).map (fun c => pickN c 16)
theorem pickP_isP (zs : List Int) : isP (pickP zs) = true := by
  unfold isP pickP
  simp only [List.length_map, List.length_take, Bool.and_eq_true, decide_eq_true_eq, List.all_eq_true]
  refine ⟨by omega, fun z hz => ?_⟩
  obtain ⟨c, _, rfl⟩ := List.mem_map.1 hz
  have := pickN_bounds c 16 (by omega)
  simp [nib]; omega
theorem pickP_snoc (zs : List Int) (k : Nat) (h : k < zs.length) : (zs.take (k + 1)).map (fun c => pickN c 16) = (zs.take k).map (fun c => pickN c 16) ++ [pickN (zs.getD k 0) 16] := by
  have e : zs.getD k 0 = zs[k] := by simp [List.getD_eq_getElem?_getD, h]
  rw [e, List.take_succ_eq_append_getElem h, List.map_append]; rfl

set_option maxHeartbeats 8000000 in
set_option maxRecDepth 20000 in
theorem packed_any (ao : Option Addr) (cap : Nat) (zs : List Int) (leaf : Bool) (s : ByteArray) (w : World) (hm : zs.length ≤ 9223372036854775807) (hs : s.size ≤ 9223372036854775807) (hc : Ints w ao zs) (hr : ∀ z ∈ zs, -9223372036854775808 ≤ z ∧ z ≤ 9223372036854775807) :
    Calls Try.prog 7 #[.slice ao zs.length cap, .bool leaf, .string s] w fun e w' => e = .returned (.bool true) ∧ Below w.heap.size w w' := by
  obtain ⟨i0, hi, hz0, hz1, hz2⟩ := info_parts info3
  have HC := hide hc
  have HR := hide hr
  have HS := hide hs
  have HP1 := hide (unp_pack leaf (pickP_isP zs))
  have HP2 : Hid (packR leaf (pickP zs) = (codeOf leaf (pickP zs), 0)) := packR_good (pickP_isP zs)
  have HPl : Hid ((pickP zs).length = min 128 zs.length) := by show _ = _; unfold pickP; rw [List.length_map, List.length_take]
  clear hc hr hs
  go_enter Try.func7, Try.ntmps7
  go_wp2_with fail
  refine (coded_any w).mono ?_
  rintro e w1 ⟨rfl, hb1⟩
  have HB1 := hide hb1
  clear hb1
  go_wp2_with fail
  go_loopw [8, 9] (fun v i wr => ∃ k : Nat, k ≤ zs.length ∧ k ≤ 128 ∧ i = .int .i64 (k : Int) ∧ wr.ownsRow w1.heap.size 3 1 v k (((zs.take k).map (fun c => pickN c 16)).map (Value.int .i64)) ∧ Below w1.heap.size w1 wr) (fun _ i _ => 128 - (intOf i).toNat)
  case atStart => exact ⟨0, Nat.zero_le _, Nat.zero_le _, rfl, by simpa using World.ownsRow_nil _ _ _ _, Below.refl _ _⟩
  case round =>
    obtain ⟨k, hk, hk8, rfl, hown, hbw⟩ := hrel
    have HOW := hide hown
    have HBW := hide hbw
    have HBA : Hid (Below w.heap.size w wr) := HB1.out.trans (hbw.mono HB1.out.size)
    clear hown hbw
    by_cases hlt : k < zs.length ∧ k < 128
    · obtain ⟨hlt1, hlt2⟩ := hlt
      obtain ⟨b, off, rfl, hcell⟩ := (HC.out.keep HBA.out).get k hlt1
      have HSn := hide (pickP_snoc zs k hlt1)
      have hrz : -9223372036854775808 ≤ zs.getD k 0 ∧ zs.getD k 0 ≤ 9223372036854775807 := HR.out _ (by
        have e : zs.getD k 0 = zs[k] := by simp [List.getD_eq_getElem?_getD, hlt1]
        rw [e]; exact List.getElem_mem hlt1)
      have HRz := hide hrz
      clear hrz
      generalize zs.getD k 0 = z at *
      have b0 : (0 : Int) ≤ (k : Int) := by omega
      have b1 : (k : Int) < (zs.length : Int) := by omega
      have b2 : (k : Int) < 128 := by omega
      go_wp2_with fail
      refine (pick_any z 16 wr HRz.out.1 HRz.out.2 (by omega) (by omega)).mono ?_
      rintro e w2 ⟨rfl, rfl⟩
      go_wp2_with (at_builtin; go_must (refine wpList_append_lies _ rfl (.tmp 32) (.tmp 38) 48 rfl w1.heap.size 3 i0 (.int .i64 0) 1 8 Try.underlying48 hi hz0 hz1 hz2 rfl (by decide) u8 k _ rfl (HOW.out.alloc _) ⟨w2.heap.size, 0, none⟩ 1 1 [.int .i64 (pickN z 16)] rfl rfl (World.news_of_block (cs := #[.int .i64 (pickN z 16)]) (t := 3) (fr := (0, 0)) (heap_alloc_new w2 _)) (by simp [Value.oneCell']) (by omega) (by unfold maxLen; omega) (by omega) (by have := HBW.out.size; simp; omega) _ rfl ?_); intro g3 c3 w3 ho3 hg3 hat3 hlt3; go_must (have HO3 := hide (And.intro ho3 hg3)); clear ho3 hg3 hat3 hlt3)
      go_roundw
      case rel => exact ⟨k + 1, by omega, by omega, by go_num, by rw [HSn.out, List.map_append]; exact HO3.out.1, (HBW.out.alloc HBW.out.size _).grown HO3.out.2 (by have := HBW.out.size; simp; omega) (own_ge HOW.out (Nat.le_refl _))⟩
      case measure => simp [intOf]; omega
    · have hkm : k = min 128 zs.length := by omega
      have htk : (zs.take k).map (fun c => pickN c 16) = pickP zs := by
        unfold pickP
        rw [hkm]
        by_cases h8 : 128 ≤ zs.length
        · rw [Nat.min_eq_left h8]
        · rw [Nat.min_eq_right (by omega), List.take_of_length_le (Nat.le_refl _), List.take_of_length_le (by omega)]
      have hkp : k = (pickP zs).length := by rw [hkm, HPl.out]
      have hO := HOW.out
      rw [htk] at hO
      have hsh : ∃ a2 c2, u8 = .slice a2 k c2 ∧ (a2 = none → c2 = 0) ∧ Ints wr a2 (pickP zs) := by
        rcases hO.2 with ⟨h1, h2⟩ | ⟨g, c2, cur, h1, _⟩
        · exact ⟨none, 0, by rw [h1, h2], fun _ => rfl, .inl (List.length_eq_zero_iff.1 (by omega))⟩
        · subst h1
          exact ⟨_, c2, rfl, (fun h => by cases h), Ints.own hO⟩
      obtain ⟨a2, c2, rfl, hc2, hin⟩ := hsh
      have HIN := hide hin
      have HC2 := hide hc2
      have HLL : Hid (¬ ((k : Int) < (zs.length : Int) ∧ (k : Int) < 128)) := by show ¬ _; omega
      clear hO hin hc2 htk hkm HOW hlt
      generalize pickP zs = PP at *
      generalize codeOf leaf PP = CD at *
      have hk8I : (k : Int) ≤ 128 := by omega
      have hpk := cPack_any a2 c2 PP leaf wr (by omega) HIN.out HC2.out
      rw [HP2.out, ← hkp] at hpk
      have HPK := hide hpk
      clear hpk
      have hun := fun W => cUnpack_some CD W PP leaf HP1.out.1
      rw [← hkp] at hun
      have HUN := hide hun
      clear hun
      have hsz : (CD.size : Int) = (k : Int) / 2 + 1 := by have := HP1.out.2; omega
      have HSZ := hide hsz
      have HKP := hide hkp
      clear hsz hkp
      by_cases hkl : k < zs.length
      · have t1 : (128 : Int) ≤ (k : Int) := by have := HLL.out; omega
        have t0 : (k : Int) < (zs.length : Int) := by omega
        go_wp2_with fail
        refine HPK.out.mono ?_
        rintro e w2 ⟨rfl, hb2⟩
        have HB2 : Hid (Below wr.heap.size wr w2) := hb2
        clear hb2
        go_wp2_with fail
        refine (HUN.out w2).mono ?_
        rintro e w3 ⟨g3, o3, rfl, hf3, _, hb3⟩
        have HF3 := hide hf3
        have HB3 : Hid (Below wr.heap.size wr w3) := HB2.out.trans (hb3.mono HB2.out.size)
        have HI3 : Hid (Ints w3 a2 PP) := HIN.out.keep HB3.out
        clear hf3 hb3
        have hsz := HSZ.out
        go_wp2_with fail
        go_loopw [15] (fun i wq => ∃ j : Nat, j ≤ k ∧ i = .int .i64 (j : Int) ∧ ∃ n, wq = w3.drewN n) (fun i _ => k - (intOf i).toNat)
        case atStart => exact ⟨0, Nat.zero_le _, rfl, 0, rfl⟩
        case round =>
          obtain ⟨j, hj, rfl, n, rfl⟩ := hrel
          by_cases hjl : j < k
          · obtain ⟨b1, off1, rfl, e1⟩ := HI3.out.get j (by have := HKP.out; omega)
            obtain ⟨b2, off2, hq2, e2⟩ := HF3.out.ints.get j (by have := HKP.out; omega)
            obtain ⟨rfl, rfl⟩ : g3 = b2 ∧ o3 = off2 := by simpa using hq2
            generalize PP.getD j 0 = z at e1 e2
            have j0 : (0 : Int) ≤ (j : Int) := by omega
            have j1 : (j : Int) < (k : Int) := by omega
            go_wp2
            go_quiet (fail)
            go_wp2
            go_roundw
            case rel => exact ⟨j + 1, by omega, by go_num, n + nq, rfl⟩
            case measure => simp [intOf]; omega
          · have HBQ : Hid (Below w.heap.size w (w3.drewN n)) := below_drewN (HBA.out.trans (HB3.out.mono HBA.out.size)) n
            clear hsz
            generalize w3.drewN n = W3 at *
            cases hu : unpL s.data.toList with
            | none =>
              have HN := hide hu
              clear hu
              go_wp2_with fail
              refine (cUnpack_none s W3 HS.out HN.out).mono ?_
              rintro e w5 ⟨rfl, hb5⟩
              go_wp2
              go_ret
              exact ⟨rfl, HBQ.out.trans (hb5.mono HBQ.out.size)⟩
            | some r =>
              obtain ⟨p, lf⟩ := r
              have HN := hide hu
              have hpl := unp_len hu
              clear hu
              go_wp2_with fail
              refine (cUnpack_some s W3 p lf HN.out).mono ?_
              rintro e w5 ⟨g5, o5, rfl, hf5, _, hb5⟩
              have HB5 : Hid (Below w.heap.size w w5) := HBQ.out.trans (hb5.mono HBQ.out.size)
              have hpk2 := cPack_any (some ⟨g5, o5, none⟩) p.length p lf w5 (by omega) hf5.ints (fun h => by cases h)
              rw [pack_unp HN.out] at hpk2
              have HPK2 := hide hpk2
              clear hpk2 hf5 hb5
              go_wp2_with fail
              refine HPK2.out.mono ?_
              rintro e w6 ⟨rfl, hb6⟩
              go_wp2
              go_ret
              exact ⟨rfl, HB5.out.trans (hb6.mono HB5.out.size)⟩
      · have t0 : (zs.length : Int) ≤ (k : Int) := by omega
        go_wp2_with fail
        refine HPK.out.mono ?_
        rintro e w2 ⟨rfl, hb2⟩
        have HB2 : Hid (Below wr.heap.size wr w2) := hb2
        clear hb2
        go_wp2_with fail
        refine (HUN.out w2).mono ?_
        rintro e w3 ⟨g3, o3, rfl, hf3, _, hb3⟩
        have HF3 := hide hf3
        have HB3 : Hid (Below wr.heap.size wr w3) := HB2.out.trans (hb3.mono HB2.out.size)
        have HI3 : Hid (Ints w3 a2 PP) := HIN.out.keep HB3.out
        clear hf3 hb3
        have hsz := HSZ.out
        go_wp2_with fail
        go_loopw [15] (fun i wq => ∃ j : Nat, j ≤ k ∧ i = .int .i64 (j : Int) ∧ ∃ n, wq = w3.drewN n) (fun i _ => k - (intOf i).toNat)
        case atStart => exact ⟨0, Nat.zero_le _, rfl, 0, rfl⟩
        case round =>
          obtain ⟨j, hj, rfl, n, rfl⟩ := hrel
          by_cases hjl : j < k
          · obtain ⟨b1, off1, rfl, e1⟩ := HI3.out.get j (by have := HKP.out; omega)
            obtain ⟨b2, off2, hq2, e2⟩ := HF3.out.ints.get j (by have := HKP.out; omega)
            obtain ⟨rfl, rfl⟩ : g3 = b2 ∧ o3 = off2 := by simpa using hq2
            generalize PP.getD j 0 = z at e1 e2
            have j0 : (0 : Int) ≤ (j : Int) := by omega
            have j1 : (j : Int) < (k : Int) := by omega
            go_wp2
            go_quiet (fail)
            go_wp2
            go_roundw
            case rel => exact ⟨j + 1, by omega, by go_num, n + nq, rfl⟩
            case measure => simp [intOf]; omega
          · have HBQ : Hid (Below w.heap.size w (w3.drewN n)) := below_drewN (HBA.out.trans (HB3.out.mono HBA.out.size)) n
            clear hsz
            generalize w3.drewN n = W3 at *
            cases hu : unpL s.data.toList with
            | none =>
              have HN := hide hu
              clear hu
              go_wp2_with fail
              refine (cUnpack_none s W3 HS.out HN.out).mono ?_
              rintro e w5 ⟨rfl, hb5⟩
              go_wp2
              go_ret
              exact ⟨rfl, HBQ.out.trans (hb5.mono HBQ.out.size)⟩
            | some r =>
              obtain ⟨p, lf⟩ := r
              have HN := hide hu
              have hpl := unp_len hu
              clear hu
              go_wp2_with fail
              refine (cUnpack_some s W3 p lf HN.out).mono ?_
              rintro e w5 ⟨g5, o5, rfl, hf5, _, hb5⟩
              have HB5 : Hid (Below w.heap.size w w5) := HBQ.out.trans (hb5.mono HBQ.out.size)
              have hpk2 := cPack_any (some ⟨g5, o5, none⟩) p.length p lf w5 (by omega) hf5.ints (fun h => by cases h)
              rw [pack_unp HN.out] at hpk2
              have HPK2 := hide hpk2
              clear hpk2 hf5 hb5
              go_wp2_with fail
              refine HPK2.out.mono ?_
              rintro e w6 ⟨rfl, hb6⟩
              go_wp2
              go_ret
              exact ⟨rfl, HB5.out.trans (hb6.mono HB5.out.size)⟩
end Go.Proofs.Ytoafiieciiijbaa
