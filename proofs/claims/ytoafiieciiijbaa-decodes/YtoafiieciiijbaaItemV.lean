/-
  OUR OWN: items: the reference's Decode.
-/
import Derived.Test.YtoafiieciiijbaaItemU
namespace Go.Proofs.Ytoafiieciiijbaa
open Go.RowKit
attribute [local go_sem ↓] Go.wp_at_zero Go.wp_at_succ

set_option maxHeartbeats 1000000 in
set_option maxRecDepth 20000 in
/-- Decode, where Read says no -/
theorem rDecode_no (s : ByteArray) (w : World) (x : Int) (hx : x ≠ 0) (h : Calls Try.prog 31 #[.string s] w fun e w' => e = .returned (.tuple #[it0, .int .i64 x]) ∧ Below w.heap.size w w') :
    Calls Try.prog 12 #[.string s] w fun e w' => e = .returned (.tuple #[.slice none 0 0, .int .i64 x]) ∧ Below w.heap.size w w' := by
  have H := hide h
  have h1 : (x != 0) = true := by simpa using hx
  clear h hx
  go_enter Try.func12, Try.ntmps12
  go_wp2_with fail
  refine H.out.mono ?_
  rintro e w1 ⟨rfl, hb⟩
  unfold it0
  go_wp2
  go_ret2
  exact ⟨rfl, hb.alloc hb.size _⟩

set_option maxHeartbeats 1000000 in
set_option maxRecDepth 20000 in
/-- Decode, where Read has an item -/
theorem rDecode_yes (s : ByteArray) (w : World) (ps : List Prt) (hp : ps.length ≤ 6000) (h : Calls Try.prog 31 #[.string s] w fun e w' => ∃ c0 c1 c2, e = .returned (.tuple #[.agg #[c0, c1, c2], .int .i64 0]) ∧ ItIs 8 w' (fun _ => True) [c0, c1, c2] ps ∧ Below w.heap.size w w') :
    Calls Try.prog 12 #[.string s] w fun e w' => DecPost (if 400 < ps.length then .error 1 else .ok ps) w e w' := by
  have H := hide h
  have HP := hide hp
  clear h hp
  obtain ⟨res, hres⟩ : ∃ res : Except Int (List Prt), res = if 400 < ps.length then .error 1 else .ok ps := ⟨_, rfl⟩
  have HRES := hide hres
  rw [← hres]
  clear hres
  go_enter Try.func12, Try.ntmps12
  go_wp2_with fail
  refine H.out.mono ?_
  rintro e w1 ⟨c0, c1, c2, rfl, hit, hb⟩
  obtain ⟨l0, b0, ao0, lo0, lc0, hsh⟩ := hit.shape
  simp only [List.cons.injEq, and_true] at hsh
  obtain ⟨rfl, rfl, rfl⟩ := hsh
  have HI := hide hit
  have HB := hide hb
  clear hit hb
  go_wp2_with fail
  have HI2 : Hid (ItIs 8 (w1.alloc (.cells #[.bool l0, .string b0, .slice ao0 lo0 lc0] 66)) (fun _ => True) [.bool l0, .string b0, .slice ao0 lo0 lc0] ps) := HI.out.keep (fun k _ hk => ⟨Below.heap_alloc _ _ _ hk, trivial⟩)
  refine (parts_any 8 _ _ _ _ _ ps HI2.out HP.out).mono ?_
  rintro e w2 ⟨v, rfl, hv, hb2⟩
  have HBF : Hid (Below w.heap.size w w2) := (HB.out.alloc HB.out.size _).trans (hb2.mono (by have := HB.out.size; simp; omega))
  have HV := hide (own_base hv (by have := HB.out.size; simp; omega : w.heap.size ≤ _))
  obtain ⟨ao, c, hlv⟩ : ∃ ao c, v = .slice ao ps.length c := by
    rcases hv.2 with ⟨rfl, h0⟩ | ⟨g, c, cur, rfl, _⟩
    · exact ⟨none, 0, by rw [h0]⟩
    · exact ⟨_, _, rfl⟩
  subst hlv
  clear hv hb2
  by_cases h4 : 400 < ps.length
  · have c4 : (400 : Int) < (ps.length : Int) := by omega
    go_wp2
    go_ret2
    rw [HRES.out, if_pos h4]
    exact ⟨rfl, HBF.out⟩
  · have c4 : (ps.length : Int) ≤ 400 := by omega
    go_wp2
    go_ret2
    rw [HRES.out, if_neg h4]
    exact ⟨_, rfl, HV.out, HBF.out⟩

/-- the reference's Decode answers as the program's -/
theorem rDecode_any (s : ByteArray) (w : World) (hm : s.size ≤ 9223372036854775807) :
    Calls Try.prog 12 #[.string s] w fun e w' => DecPost (decN s) w e w' := by
  unfold decN
  by_cases h1 : 6000 < s.size
  · rw [if_pos h1]
    exact rDecode_no s w 1 (by decide) (read_long s w h1 hm)
  · rw [if_neg h1]
    have h := rRead_any s w (by omega)
    cases hres : readN s 8 0 s.size with
    | error x =>
      rw [hres] at h
      exact rDecode_no s w x (readN_err s 8 0 s.size x hres) h
    | ok yy =>
      obtain ⟨ps, en⟩ := yy
      rw [hres] at h
      have hl := readN_len s 8 0 s.size ps en hres
      simp only
      by_cases h2 : en = s.size
      · rw [if_neg (by simpa using h2)]
        refine rDecode_yes s w ps (by omega) ?_
        refine h.mono fun e w' hp => ?_
        unfold RdPost at hp
        simp only at hp
        rwa [if_neg (by omega)] at hp
      · rw [if_pos h2]
        refine rDecode_no s w 5 (by decide) ?_
        refine h.mono fun e w' hp => ?_
        unfold RdPost at hp
        simp only at hp
        rwa [if_pos (by omega)] at hp
end Go.Proofs.Ytoafiieciiijbaa
