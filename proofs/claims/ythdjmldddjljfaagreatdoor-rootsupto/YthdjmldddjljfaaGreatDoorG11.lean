/-
  OUR OWN: VxPathF VxPathG.
-/
import Derived.Test.YthdjmldddjljfaaGreatDoorG10
import Derived.Lib.Strings
namespace Go.Proofs.YthdjmldddjljfaaGreatDoor.V
open Go.RowKit

/-- what Pack answers -/
def packR (leaf : Bool) (zs : List Int) : ByteArray × Int := if isP zs then (codeOf leaf zs, 0) else (⟨#[]⟩, 7)
theorem packR_good {leaf : Bool} {zs : List Int} (h : isP zs = true) : packR leaf zs = (codeOf leaf zs, 0) := by simp [packR, h]
theorem packR_bad {leaf : Bool} {zs : List Int} (h : isP zs = false) : packR leaf zs = (⟨#[]⟩, 7) := by simp [packR, h]

theorem rPack_any (ao : Option Addr) (cap : Nat) (zs : List Int) (leaf : Bool) (w : World) (hm : zs.length ≤ 9223372036854775807) (hc : Ints w ao zs) (hnil : ao = none → cap = 0) :
    Calls Tryz.prog 91 #[.slice ao zs.length cap, .bool leaf] w fun e w' => e = .returned (.tuple #[.string (packR leaf zs).1, .int .i64 (packR leaf zs).2]) ∧ Below w.heap.size w w' := by
  by_cases h : isP zs = true
  · rw [packR_good h]
    exact rPack_good ao cap zs leaf w hc hnil h
  · have h := Bool.eq_false_iff.2 h
    rw [packR_bad h]
    by_cases hl : zs.length ≤ 128
    · refine (rPack_bad ao cap zs leaf w hl hc h).mono ?_
      rintro e w' ⟨rfl, rfl⟩
      exact ⟨rfl, Below.refl _ _⟩
    · refine (rPack_long ao zs.length cap leaf w (by omega) hm).mono ?_
      rintro e w' ⟨rfl, rfl⟩
      exact ⟨rfl, Below.refl _ _⟩
set_option maxRecDepth 100000 in
set_option maxHeartbeats 400000 in
theorem rUnpack_nil (w : World) :
    Calls Tryz.prog 133 #[.string ⟨#[]⟩] w fun e w' => e = .returned (.tuple #[.slice none 0 0, .bool false, .int .i64 7]) ∧ Below w.heap.size w w' := by
  go_enter Tryz.func133, Tryz.ntmps133
  go_wp2_with fail
  refine (halves_any ⟨#[]⟩ w (by simp [ByteArray.size])).mono ?_
  rintro e w1 ⟨v, rfl, hown, hb⟩
  rcases hown.2 with ⟨rfl, _⟩ | ⟨g, cap, cur, rfl, _⟩
  · go_wp2
    go_ret3
    exact ⟨rfl, hb⟩
  · go_wp2
    go_ret3
    exact ⟨rfl, hb⟩

theorem toList_inj {a b : ByteArray} (h : a.toList = b.toList) : a = b := by
  rw [Lib.toList_data, Lib.toList_data] at h
  have h2 : a.data = b.data := Array.toList_inj.1 h
  cases a; cases b; cases h2; rfl
theorem neq_str {a b : ByteArray} (h : a = b → False) : (a.toList == b.toList) = false := by
  simp only [beq_eq_false_iff_ne, ne_eq]
  exact fun e => h (toList_inj e)
theorem ints_sub {w : World} {base e g n c : Nat} {xs zs : List Int} (h : w.ownsRow base e 1 (.slice (some ⟨g, 0, none⟩) n c) n ((xs ++ zs).map (Value.int .i64))) : Ints w (some ⟨g, xs.length, none⟩) zs := by
  refine .inr ⟨g, xs.length, rfl, fun j hj => ?_⟩
  have := h.cells (g := g) rfl (xs.length + j) (.int .i64 (zs.getD j 0)) (by simp [List.getD_eq_getElem?_getD, hj])
  rw [← this, addr_add, Nat.zero_add]

set_option maxRecDepth 100000 in
set_option maxHeartbeats 400000 in
theorem rUnpack_olk (s : ByteArray) (w : World) (n : Nat) (hs : s.size = n + 1) (hn : n ≤ 2000000) (c0 : Int) (r : List Int) (hnib : nibs s.data.toList = c0 :: r) (hodd : (c0 % 2 == 1) = true) (hlf : 2 ≤ c0) (hc1 : c0 ≤ 15) (hE : packR true r = (s, 0)) :
    Calls Tryz.prog 133 #[.string s] w fun e w' => ∃ ao cap, e = .returned (.tuple #[.slice ao r.length cap, .bool true, .int .i64 0]) ∧ Ints w' ao r ∧ ((∀ a, ao = some a → w.heap.size ≤ a.block) ∧ (ao = none → cap = 0)) ∧ Below w.heap.size w w' := by
  go_enter Tryz.func133, Tryz.ntmps133
  go_wp2_with fail
  refine (halves_any s w (by omega)).mono ?_
  rintro e w1 ⟨v, rfl, hown, hb⟩
  rw [hs, hnib] at hown
  have hrl : r.length + 1 = 2 * (n + 1) := by
    have := nibs_length s.data.toList
    rw [hnib, Array.length_toList] at this
    have hs' : s.data.size = n + 1 := hs
    simp at this; omega
  obtain ⟨g, c, rfl, hg1, hg2⟩ := hown.form (by omega)
  have hcc : 2 * (n + 1) ≤ c := by
    rcases hown.2 with ⟨h, _⟩ | ⟨g', cap', cur, h, _, _, h3, _⟩
    · cases h
    · simp at h; omega
  have hcell := hown.cells (g := g) rfl 0 (.int .i64 c0) (by simp)
  rw [addr_add] at hcell
  simp only [Nat.zero_add] at hcell
  have HI := hide (ints_sub (xs := [c0]) (zs := r) (by simpa using hown))
  have HE := hide hE
  have HB := hide hb
  clear hown hs hE hb
  obtain ⟨N, hN⟩ : ∃ N, Hid (2 * (n + 1) = N) := ⟨_, rfl⟩
  rw [hN.out]
  have b1 : (2 : Int) ≤ (N : Int) := by have := hN.out; omega
  have b2 : (N : Int) ≤ (c : Int) := by have := hN.out; omega
  have b3 : (N : Int) ≤ 4000010 := by have := hN.out; omega
  have HL : Hid (N - 1 = r.length) := by have := hN.out; show N - 1 = r.length; omega
  have HM : Hid (r.length ≤ 5000000) := by show r.length ≤ 5000000; omega
  clear hcc hrl
  have hlfb : decide ((2 : Int) ≤ c0) = true := by simp; omega
  by_cases hc2 : c = 2
  all_goals
    go_wp2_with fail
    rw [HL.out]
    refine (rPack_any _ _ r true w1 (by have := HM.out; omega) ?hI ?hnil).mono ?_
    case hI => first | exact HI.out | exact .inl (List.length_eq_zero_iff.1 (by have := HL.out; have := hN.out; omega))
    case hnil => first | (intro h; cases h; done) | (intro _; omega) | (intro _; rfl)
    rintro e w2 ⟨rfl, hb2⟩
    have HF : Hid (Below w.heap.size w w2) := HB.out.trans (hb2.mono HB.out.size)
    rw [HE.out]
    have HI2 := hide (HI.out.keep hb2)
    clear hb2
    go_wp2
    go_ret3
    refine ⟨_, _, rfl, ?_, ⟨?_, fun ha => by first | (cases ha; done) | rfl⟩, HF.out⟩
    · first | exact HI2.out | exact .inl (List.length_eq_zero_iff.1 (by have := HL.out; have := hN.out; omega))
    · intro a ha
      first | (cases ha; done) | (cases ha; exact hg1)

set_option maxRecDepth 100000 in
set_option maxHeartbeats 400000 in
theorem rUnpack_olx (s : ByteArray) (w : World) (n : Nat) (hs : s.size = n + 1) (hn : n ≤ 2000000) (c0 : Int) (r : List Int) (hnib : nibs s.data.toList = c0 :: r) (hodd : (c0 % 2 == 1) = true) (hlf : 2 ≤ c0) (hc1 : c0 ≤ 15) (hE : ¬ packR true r = (s, 0)) :
    Calls Tryz.prog 133 #[.string s] w fun e w' => e = .returned (.tuple #[.slice none 0 0, .bool false, .int .i64 7]) ∧ Below w.heap.size w w' := by
  go_enter Tryz.func133, Tryz.ntmps133
  go_wp2_with fail
  refine (halves_any s w (by omega)).mono ?_
  rintro e w1 ⟨v, rfl, hown, hb⟩
  rw [hs, hnib] at hown
  have hrl : r.length + 1 = 2 * (n + 1) := by
    have := nibs_length s.data.toList
    rw [hnib, Array.length_toList] at this
    have hs' : s.data.size = n + 1 := hs
    simp at this; omega
  obtain ⟨g, c, rfl, hg1, hg2⟩ := hown.form (by omega)
  have hcc : 2 * (n + 1) ≤ c := by
    rcases hown.2 with ⟨h, _⟩ | ⟨g', cap', cur, h, _, _, h3, _⟩
    · cases h
    · simp at h; omega
  have hcell := hown.cells (g := g) rfl 0 (.int .i64 c0) (by simp)
  rw [addr_add] at hcell
  simp only [Nat.zero_add] at hcell
  have HI := hide (ints_sub (xs := [c0]) (zs := r) (by simpa using hown))
  have HE := hide hE
  have HB := hide hb
  clear hown hs hE hb
  obtain ⟨N, hN⟩ : ∃ N, Hid (2 * (n + 1) = N) := ⟨_, rfl⟩
  rw [hN.out]
  have b1 : (2 : Int) ≤ (N : Int) := by have := hN.out; omega
  have b2 : (N : Int) ≤ (c : Int) := by have := hN.out; omega
  have b3 : (N : Int) ≤ 4000010 := by have := hN.out; omega
  have HL : Hid (N - 1 = r.length) := by have := hN.out; show N - 1 = r.length; omega
  have HM : Hid (r.length ≤ 5000000) := by show r.length ≤ 5000000; omega
  clear hcc hrl
  have hlfb : decide ((2 : Int) ≤ c0) = true := by simp; omega
  by_cases hc2 : c = 2
  all_goals
    go_wp2_with fail
    rw [HL.out]
    refine (rPack_any _ _ r true w1 (by have := HM.out; omega) ?hI ?hnil).mono ?_
    case hI => first | exact HI.out | exact .inl (List.length_eq_zero_iff.1 (by have := HL.out; have := hN.out; omega))
    case hnil => first | (intro h; cases h; done) | (intro _; omega) | (intro _; rfl)
    rintro e w2 ⟨rfl, hb2⟩
    have HF : Hid (Below w.heap.size w w2) := HB.out.trans (hb2.mono HB.out.size)
    clear hb2
    by_cases h7 : isP r = true
    · rw [packR_good h7]
      have hne := neq_str (a := codeOf true r) (b := s) (fun h => HE.out (by rw [packR_good h7, h]))
      generalize codeOf true r = T at *
      go_wp2
      go_ret3
      exact ⟨rfl, HF.out⟩
    · rw [packR_bad (Bool.eq_false_iff.2 h7)]
      go_wp2
      go_ret3
      exact ⟨rfl, HF.out⟩

set_option maxRecDepth 100000 in
set_option maxHeartbeats 400000 in
theorem rUnpack_onk (s : ByteArray) (w : World) (n : Nat) (hs : s.size = n + 1) (hn : n ≤ 2000000) (c0 : Int) (r : List Int) (hnib : nibs s.data.toList = c0 :: r) (hodd : (c0 % 2 == 1) = true) (hlf : c0 < 2) (hc0 : 0 ≤ c0) (_hc1 : c0 ≤ 15) (hE : packR false r = (s, 0)) :
    Calls Tryz.prog 133 #[.string s] w fun e w' => ∃ ao cap, e = .returned (.tuple #[.slice ao r.length cap, .bool false, .int .i64 0]) ∧ Ints w' ao r ∧ ((∀ a, ao = some a → w.heap.size ≤ a.block) ∧ (ao = none → cap = 0)) ∧ Below w.heap.size w w' := by
  go_enter Tryz.func133, Tryz.ntmps133
  go_wp2_with fail
  refine (halves_any s w (by omega)).mono ?_
  rintro e w1 ⟨v, rfl, hown, hb⟩
  rw [hs, hnib] at hown
  have hrl : r.length + 1 = 2 * (n + 1) := by
    have := nibs_length s.data.toList
    rw [hnib, Array.length_toList] at this
    have hs' : s.data.size = n + 1 := hs
    simp at this; omega
  obtain ⟨g, c, rfl, hg1, hg2⟩ := hown.form (by omega)
  have hcc : 2 * (n + 1) ≤ c := by
    rcases hown.2 with ⟨h, _⟩ | ⟨g', cap', cur, h, _, _, h3, _⟩
    · cases h
    · simp at h; omega
  have hcell := hown.cells (g := g) rfl 0 (.int .i64 c0) (by simp)
  rw [addr_add] at hcell
  simp only [Nat.zero_add] at hcell
  have HI := hide (ints_sub (xs := [c0]) (zs := r) (by simpa using hown))
  have HE := hide hE
  have HB := hide hb
  clear hown hs hE hb
  obtain ⟨N, hN⟩ : ∃ N, Hid (2 * (n + 1) = N) := ⟨_, rfl⟩
  rw [hN.out]
  have b1 : (2 : Int) ≤ (N : Int) := by have := hN.out; omega
  have b2 : (N : Int) ≤ (c : Int) := by have := hN.out; omega
  have b3 : (N : Int) ≤ 4000010 := by have := hN.out; omega
  have HL : Hid (N - 1 = r.length) := by have := hN.out; show N - 1 = r.length; omega
  have HM : Hid (r.length ≤ 5000000) := by show r.length ≤ 5000000; omega
  clear hcc hrl
  have hlfb : decide ((2 : Int) ≤ c0) = false := by simp; omega
  by_cases hc2 : c = 2
  all_goals
    go_wp2_with fail
    rw [HL.out]
    refine (rPack_any _ _ r false w1 (by have := HM.out; omega) ?hI ?hnil).mono ?_
    case hI => first | exact HI.out | exact .inl (List.length_eq_zero_iff.1 (by have := HL.out; have := hN.out; omega))
    case hnil => first | (intro h; cases h; done) | (intro _; omega) | (intro _; rfl)
    rintro e w2 ⟨rfl, hb2⟩
    have HF : Hid (Below w.heap.size w w2) := HB.out.trans (hb2.mono HB.out.size)
    rw [HE.out]
    have HI2 := hide (HI.out.keep hb2)
    clear hb2
    go_wp2
    go_ret3
    refine ⟨_, _, rfl, ?_, ⟨?_, fun ha => by first | (cases ha; done) | rfl⟩, HF.out⟩
    · first | exact HI2.out | exact .inl (List.length_eq_zero_iff.1 (by have := HL.out; have := hN.out; omega))
    · intro a ha
      first | (cases ha; done) | (cases ha; exact hg1)

set_option maxRecDepth 100000 in
set_option maxHeartbeats 400000 in
theorem rUnpack_onx (s : ByteArray) (w : World) (n : Nat) (hs : s.size = n + 1) (hn : n ≤ 2000000) (c0 : Int) (r : List Int) (hnib : nibs s.data.toList = c0 :: r) (hodd : (c0 % 2 == 1) = true) (hlf : c0 < 2) (hc0 : 0 ≤ c0) (_hc1 : c0 ≤ 15) (hE : ¬ packR false r = (s, 0)) :
    Calls Tryz.prog 133 #[.string s] w fun e w' => e = .returned (.tuple #[.slice none 0 0, .bool false, .int .i64 7]) ∧ Below w.heap.size w w' := by
  go_enter Tryz.func133, Tryz.ntmps133
  go_wp2_with fail
  refine (halves_any s w (by omega)).mono ?_
  rintro e w1 ⟨v, rfl, hown, hb⟩
  rw [hs, hnib] at hown
  have hrl : r.length + 1 = 2 * (n + 1) := by
    have := nibs_length s.data.toList
    rw [hnib, Array.length_toList] at this
    have hs' : s.data.size = n + 1 := hs
    simp at this; omega
  obtain ⟨g, c, rfl, hg1, hg2⟩ := hown.form (by omega)
  have hcc : 2 * (n + 1) ≤ c := by
    rcases hown.2 with ⟨h, _⟩ | ⟨g', cap', cur, h, _, _, h3, _⟩
    · cases h
    · simp at h; omega
  have hcell := hown.cells (g := g) rfl 0 (.int .i64 c0) (by simp)
  rw [addr_add] at hcell
  simp only [Nat.zero_add] at hcell
  have HI := hide (ints_sub (xs := [c0]) (zs := r) (by simpa using hown))
  have HE := hide hE
  have HB := hide hb
  clear hown hs hE hb
  obtain ⟨N, hN⟩ : ∃ N, Hid (2 * (n + 1) = N) := ⟨_, rfl⟩
  rw [hN.out]
  have b1 : (2 : Int) ≤ (N : Int) := by have := hN.out; omega
  have b2 : (N : Int) ≤ (c : Int) := by have := hN.out; omega
  have b3 : (N : Int) ≤ 4000010 := by have := hN.out; omega
  have HL : Hid (N - 1 = r.length) := by have := hN.out; show N - 1 = r.length; omega
  have HM : Hid (r.length ≤ 5000000) := by show r.length ≤ 5000000; omega
  clear hcc hrl
  have hlfb : decide ((2 : Int) ≤ c0) = false := by simp; omega
  by_cases hc2 : c = 2
  all_goals
    go_wp2_with fail
    rw [HL.out]
    refine (rPack_any _ _ r false w1 (by have := HM.out; omega) ?hI ?hnil).mono ?_
    case hI => first | exact HI.out | exact .inl (List.length_eq_zero_iff.1 (by have := HL.out; have := hN.out; omega))
    case hnil => first | (intro h; cases h; done) | (intro _; omega) | (intro _; rfl)
    rintro e w2 ⟨rfl, hb2⟩
    have HF : Hid (Below w.heap.size w w2) := HB.out.trans (hb2.mono HB.out.size)
    clear hb2
    by_cases h7 : isP r = true
    · rw [packR_good h7]
      have hne := neq_str (a := codeOf false r) (b := s) (fun h => HE.out (by rw [packR_good h7, h]))
      generalize codeOf false r = T at *
      go_wp2
      go_ret3
      exact ⟨rfl, HF.out⟩
    · rw [packR_bad (Bool.eq_false_iff.2 h7)]
      go_wp2
      go_ret3
      exact ⟨rfl, HF.out⟩

set_option maxRecDepth 100000 in
set_option maxHeartbeats 400000 in
theorem rUnpack_elk (s : ByteArray) (w : World) (n : Nat) (hs : s.size = n + 1) (hn : n ≤ 2000000) (c0 c1 : Int) (r : List Int) (hnib : nibs s.data.toList = c0 :: c1 :: r) (hodd : (c0 % 2 == 1) = false) (hlf : 2 ≤ c0) (hc1 : c0 ≤ 15) (hE : packR true r = (s, 0)) :
    Calls Tryz.prog 133 #[.string s] w fun e w' => ∃ ao cap, e = .returned (.tuple #[.slice ao r.length cap, .bool true, .int .i64 0]) ∧ Ints w' ao r ∧ ((∀ a, ao = some a → w.heap.size ≤ a.block) ∧ (ao = none → cap = 0)) ∧ Below w.heap.size w w' := by
  go_enter Tryz.func133, Tryz.ntmps133
  go_wp2_with fail
  refine (halves_any s w (by omega)).mono ?_
  rintro e w1 ⟨v, rfl, hown, hb⟩
  rw [hs, hnib] at hown
  have hrl : r.length + 2 = 2 * (n + 1) := by
    have := nibs_length s.data.toList
    rw [hnib, Array.length_toList] at this
    have hs' : s.data.size = n + 1 := hs
    simp at this; omega
  obtain ⟨g, c, rfl, hg1, hg2⟩ := hown.form (by omega)
  have hcc : 2 * (n + 1) ≤ c := by
    rcases hown.2 with ⟨h, _⟩ | ⟨g', cap', cur, h, _, _, h3, _⟩
    · cases h
    · simp at h; omega
  have hcell := hown.cells (g := g) rfl 0 (.int .i64 c0) (by simp)
  rw [addr_add] at hcell
  simp only [Nat.zero_add] at hcell
  have HI := hide (ints_sub (xs := [c0, c1]) (zs := r) (by simpa using hown))
  have HE := hide hE
  have HB := hide hb
  clear hown hs hE hb
  obtain ⟨N, hN⟩ : ∃ N, Hid (2 * (n + 1) = N) := ⟨_, rfl⟩
  rw [hN.out]
  have b1 : (2 : Int) ≤ (N : Int) := by have := hN.out; omega
  have b2 : (N : Int) ≤ (c : Int) := by have := hN.out; omega
  have b3 : (N : Int) ≤ 4000010 := by have := hN.out; omega
  have HL : Hid (N - 2 = r.length) := by have := hN.out; show N - 2 = r.length; omega
  have HM : Hid (r.length ≤ 5000000) := by show r.length ≤ 5000000; omega
  clear hcc hrl
  have hlfb : decide ((2 : Int) ≤ c0) = true := by simp; omega
  by_cases hc2 : c = 2
  all_goals
    go_wp2_with fail
    rw [HL.out]
    refine (rPack_any _ _ r true w1 (by have := HM.out; omega) ?hI ?hnil).mono ?_
    case hI => first | exact HI.out | exact .inl (List.length_eq_zero_iff.1 (by have := HL.out; have := hN.out; omega))
    case hnil => first | (intro h; cases h; done) | (intro _; omega) | (intro _; rfl)
    rintro e w2 ⟨rfl, hb2⟩
    have HF : Hid (Below w.heap.size w w2) := HB.out.trans (hb2.mono HB.out.size)
    rw [HE.out]
    have HI2 := hide (HI.out.keep hb2)
    clear hb2
    go_wp2
    go_ret3
    refine ⟨_, _, rfl, ?_, ⟨?_, fun ha => by first | (cases ha; done) | rfl⟩, HF.out⟩
    · first | exact HI2.out | exact .inl (List.length_eq_zero_iff.1 (by have := HL.out; have := hN.out; omega))
    · intro a ha
      first | (cases ha; done) | (cases ha; exact hg1)

set_option maxRecDepth 100000 in
set_option maxHeartbeats 400000 in
theorem rUnpack_elx (s : ByteArray) (w : World) (n : Nat) (hs : s.size = n + 1) (hn : n ≤ 2000000) (c0 c1 : Int) (r : List Int) (hnib : nibs s.data.toList = c0 :: c1 :: r) (hodd : (c0 % 2 == 1) = false) (hlf : 2 ≤ c0) (hc1 : c0 ≤ 15) (hE : ¬ packR true r = (s, 0)) :
    Calls Tryz.prog 133 #[.string s] w fun e w' => e = .returned (.tuple #[.slice none 0 0, .bool false, .int .i64 7]) ∧ Below w.heap.size w w' := by
  go_enter Tryz.func133, Tryz.ntmps133
  go_wp2_with fail
  refine (halves_any s w (by omega)).mono ?_
  rintro e w1 ⟨v, rfl, hown, hb⟩
  rw [hs, hnib] at hown
  have hrl : r.length + 2 = 2 * (n + 1) := by
    have := nibs_length s.data.toList
    rw [hnib, Array.length_toList] at this
    have hs' : s.data.size = n + 1 := hs
    simp at this; omega
  obtain ⟨g, c, rfl, hg1, hg2⟩ := hown.form (by omega)
  have hcc : 2 * (n + 1) ≤ c := by
    rcases hown.2 with ⟨h, _⟩ | ⟨g', cap', cur, h, _, _, h3, _⟩
    · cases h
    · simp at h; omega
  have hcell := hown.cells (g := g) rfl 0 (.int .i64 c0) (by simp)
  rw [addr_add] at hcell
  simp only [Nat.zero_add] at hcell
  have HI := hide (ints_sub (xs := [c0, c1]) (zs := r) (by simpa using hown))
  have HE := hide hE
  have HB := hide hb
  clear hown hs hE hb
  obtain ⟨N, hN⟩ : ∃ N, Hid (2 * (n + 1) = N) := ⟨_, rfl⟩
  rw [hN.out]
  have b1 : (2 : Int) ≤ (N : Int) := by have := hN.out; omega
  have b2 : (N : Int) ≤ (c : Int) := by have := hN.out; omega
  have b3 : (N : Int) ≤ 4000010 := by have := hN.out; omega
  have HL : Hid (N - 2 = r.length) := by have := hN.out; show N - 2 = r.length; omega
  have HM : Hid (r.length ≤ 5000000) := by show r.length ≤ 5000000; omega
  clear hcc hrl
  have hlfb : decide ((2 : Int) ≤ c0) = true := by simp; omega
  by_cases hc2 : c = 2
  all_goals
    go_wp2_with fail
    rw [HL.out]
    refine (rPack_any _ _ r true w1 (by have := HM.out; omega) ?hI ?hnil).mono ?_
    case hI => first | exact HI.out | exact .inl (List.length_eq_zero_iff.1 (by have := HL.out; have := hN.out; omega))
    case hnil => first | (intro h; cases h; done) | (intro _; omega) | (intro _; rfl)
    rintro e w2 ⟨rfl, hb2⟩
    have HF : Hid (Below w.heap.size w w2) := HB.out.trans (hb2.mono HB.out.size)
    clear hb2
    by_cases h7 : isP r = true
    · rw [packR_good h7]
      have hne := neq_str (a := codeOf true r) (b := s) (fun h => HE.out (by rw [packR_good h7, h]))
      generalize codeOf true r = T at *
      go_wp2
      go_ret3
      exact ⟨rfl, HF.out⟩
    · rw [packR_bad (Bool.eq_false_iff.2 h7)]
      go_wp2
      go_ret3
      exact ⟨rfl, HF.out⟩

set_option maxRecDepth 100000 in
set_option maxHeartbeats 400000 in
theorem rUnpack_enk (s : ByteArray) (w : World) (n : Nat) (hs : s.size = n + 1) (hn : n ≤ 2000000) (c0 c1 : Int) (r : List Int) (hnib : nibs s.data.toList = c0 :: c1 :: r) (hodd : (c0 % 2 == 1) = false) (hlf : c0 < 2) (hc0 : 0 ≤ c0) (_hc1 : c0 ≤ 15) (hE : packR false r = (s, 0)) :
    Calls Tryz.prog 133 #[.string s] w fun e w' => ∃ ao cap, e = .returned (.tuple #[.slice ao r.length cap, .bool false, .int .i64 0]) ∧ Ints w' ao r ∧ ((∀ a, ao = some a → w.heap.size ≤ a.block) ∧ (ao = none → cap = 0)) ∧ Below w.heap.size w w' := by
  go_enter Tryz.func133, Tryz.ntmps133
  go_wp2_with fail
  refine (halves_any s w (by omega)).mono ?_
  rintro e w1 ⟨v, rfl, hown, hb⟩
  rw [hs, hnib] at hown
  have hrl : r.length + 2 = 2 * (n + 1) := by
    have := nibs_length s.data.toList
    rw [hnib, Array.length_toList] at this
    have hs' : s.data.size = n + 1 := hs
    simp at this; omega
  obtain ⟨g, c, rfl, hg1, hg2⟩ := hown.form (by omega)
  have hcc : 2 * (n + 1) ≤ c := by
    rcases hown.2 with ⟨h, _⟩ | ⟨g', cap', cur, h, _, _, h3, _⟩
    · cases h
    · simp at h; omega
  have hcell := hown.cells (g := g) rfl 0 (.int .i64 c0) (by simp)
  rw [addr_add] at hcell
  simp only [Nat.zero_add] at hcell
  have HI := hide (ints_sub (xs := [c0, c1]) (zs := r) (by simpa using hown))
  have HE := hide hE
  have HB := hide hb
  clear hown hs hE hb
  obtain ⟨N, hN⟩ : ∃ N, Hid (2 * (n + 1) = N) := ⟨_, rfl⟩
  rw [hN.out]
  have b1 : (2 : Int) ≤ (N : Int) := by have := hN.out; omega
  have b2 : (N : Int) ≤ (c : Int) := by have := hN.out; omega
  have b3 : (N : Int) ≤ 4000010 := by have := hN.out; omega
  have HL : Hid (N - 2 = r.length) := by have := hN.out; show N - 2 = r.length; omega
  have HM : Hid (r.length ≤ 5000000) := by show r.length ≤ 5000000; omega
  clear hcc hrl
  have hlfb : decide ((2 : Int) ≤ c0) = false := by simp; omega
  by_cases hc2 : c = 2
  all_goals
    go_wp2_with fail
    rw [HL.out]
    refine (rPack_any _ _ r false w1 (by have := HM.out; omega) ?hI ?hnil).mono ?_
    case hI => first | exact HI.out | exact .inl (List.length_eq_zero_iff.1 (by have := HL.out; have := hN.out; omega))
    case hnil => first | (intro h; cases h; done) | (intro _; omega) | (intro _; rfl)
    rintro e w2 ⟨rfl, hb2⟩
    have HF : Hid (Below w.heap.size w w2) := HB.out.trans (hb2.mono HB.out.size)
    rw [HE.out]
    have HI2 := hide (HI.out.keep hb2)
    clear hb2
    go_wp2
    go_ret3
    refine ⟨_, _, rfl, ?_, ⟨?_, fun ha => by first | (cases ha; done) | rfl⟩, HF.out⟩
    · first | exact HI2.out | exact .inl (List.length_eq_zero_iff.1 (by have := HL.out; have := hN.out; omega))
    · intro a ha
      first | (cases ha; done) | (cases ha; exact hg1)

set_option maxRecDepth 100000 in
set_option maxHeartbeats 400000 in
theorem rUnpack_enx (s : ByteArray) (w : World) (n : Nat) (hs : s.size = n + 1) (hn : n ≤ 2000000) (c0 c1 : Int) (r : List Int) (hnib : nibs s.data.toList = c0 :: c1 :: r) (hodd : (c0 % 2 == 1) = false) (hlf : c0 < 2) (hc0 : 0 ≤ c0) (_hc1 : c0 ≤ 15) (hE : ¬ packR false r = (s, 0)) :
    Calls Tryz.prog 133 #[.string s] w fun e w' => e = .returned (.tuple #[.slice none 0 0, .bool false, .int .i64 7]) ∧ Below w.heap.size w w' := by
  go_enter Tryz.func133, Tryz.ntmps133
  go_wp2_with fail
  refine (halves_any s w (by omega)).mono ?_
  rintro e w1 ⟨v, rfl, hown, hb⟩
  rw [hs, hnib] at hown
  have hrl : r.length + 2 = 2 * (n + 1) := by
    have := nibs_length s.data.toList
    rw [hnib, Array.length_toList] at this
    have hs' : s.data.size = n + 1 := hs
    simp at this; omega
  obtain ⟨g, c, rfl, hg1, hg2⟩ := hown.form (by omega)
  have hcc : 2 * (n + 1) ≤ c := by
    rcases hown.2 with ⟨h, _⟩ | ⟨g', cap', cur, h, _, _, h3, _⟩
    · cases h
    · simp at h; omega
  have hcell := hown.cells (g := g) rfl 0 (.int .i64 c0) (by simp)
  rw [addr_add] at hcell
  simp only [Nat.zero_add] at hcell
  have HI := hide (ints_sub (xs := [c0, c1]) (zs := r) (by simpa using hown))
  have HE := hide hE
  have HB := hide hb
  clear hown hs hE hb
  obtain ⟨N, hN⟩ : ∃ N, Hid (2 * (n + 1) = N) := ⟨_, rfl⟩
  rw [hN.out]
  have b1 : (2 : Int) ≤ (N : Int) := by have := hN.out; omega
  have b2 : (N : Int) ≤ (c : Int) := by have := hN.out; omega
  have b3 : (N : Int) ≤ 4000010 := by have := hN.out; omega
  have HL : Hid (N - 2 = r.length) := by have := hN.out; show N - 2 = r.length; omega
  have HM : Hid (r.length ≤ 5000000) := by show r.length ≤ 5000000; omega
  clear hcc hrl
  have hlfb : decide ((2 : Int) ≤ c0) = false := by simp; omega
  by_cases hc2 : c = 2
  all_goals
    go_wp2_with fail
    rw [HL.out]
    refine (rPack_any _ _ r false w1 (by have := HM.out; omega) ?hI ?hnil).mono ?_
    case hI => first | exact HI.out | exact .inl (List.length_eq_zero_iff.1 (by have := HL.out; have := hN.out; omega))
    case hnil => first | (intro h; cases h; done) | (intro _; omega) | (intro _; rfl)
    rintro e w2 ⟨rfl, hb2⟩
    have HF : Hid (Below w.heap.size w w2) := HB.out.trans (hb2.mono HB.out.size)
    clear hb2
    by_cases h7 : isP r = true
    · rw [packR_good h7]
      have hne := neq_str (a := codeOf false r) (b := s) (fun h => HE.out (by rw [packR_good h7, h]))
      generalize codeOf false r = T at *
      go_wp2
      go_ret3
      exact ⟨rfl, HF.out⟩
    · rw [packR_bad (Bool.eq_false_iff.2 h7)]
      go_wp2
      go_ret3
      exact ⟨rfl, HF.out⟩

end Go.Proofs.YthdjmldddjljfaaGreatDoor.V
namespace Go.Proofs.YthdjmldddjljfaaGreatDoor.V
open Go.RowKit
attribute [local go_sem ↓] Go.wp_at_zero Go.wp_at_succ

theorem and15_fin : ∀ b : Fin 256, bits BinOp.and IntKind.u8 (b.val : Int) 15 = (b.val : Int) % 16 := by decide +kernel
theorem and15 (b : UInt8) : bits BinOp.and IntKind.u8 (b.toNat : Int) 15 = (b.toNat : Int) % 16 := and15_fin ⟨b.toNat, b.toNat_lt⟩

set_option maxHeartbeats 400000 in
theorem pUnpack_nil (w : World) :
    Calls Tryz.prog 175 #[.string ⟨#[]⟩] w fun e w' => e = .returned (.tuple #[.slice none 0 0, .bool false, .int .i64 7]) ∧ w' = w := by
  go_enter Tryz.func175, Tryz.ntmps175
  go_wp2
  go_ret3
  exact ⟨rfl, rfl⟩
set_option maxHeartbeats 400000 in
theorem pUnpack_long (s : ByteArray) (w : World) (h : 65 < s.size) (hm : s.size ≤ 9223372036854775807) :
    Calls Tryz.prog 175 #[.string s] w fun e w' => e = .returned (.tuple #[.slice none 0 0, .bool false, .int .i64 7]) ∧ w' = w := by
  go_enter Tryz.func175, Tryz.ntmps175
  go_wp2
  all_goals
    go_ret3
    exact ⟨rfl, rfl⟩
theorem ne_empty {s : ByteArray} (h : 0 < s.size) : s.toList.isEmpty = false := by
  rw [Lib.toList_data]
  cases hl : s.data.toList with
  | nil => have := Lib.size_eq s; rw [hl, List.length_nil] at this; omega
  | cons a r => rfl

set_option maxRecDepth 100000 in
set_option maxHeartbeats 400000 in
theorem pUnpack_e1 (s : ByteArray) (w : World) (h0 : 0 < s.size) (h : s.size ≤ 65) (m x : Int) (hm : (s[0].toNat : Int) / 16 = m) (hx : (s[0].toNat : Int) % 16 = x) (hm3 : 3 < m) :
    Calls Tryz.prog 175 #[.string s] w fun e w' => e = .returned (.tuple #[.slice none 0 0, .bool false, .int .i64 7]) ∧ Below w.heap.size w w' := by
  have hne := ne_empty h0
  have hb2 : (s[0].toNat : Int) < 256 := by have := s[0].toNat_lt; omega
  have hbt := and15 s[0]
  rw [hx] at hbt
  have m1 : 0 ≤ m := by omega
  have m2 : m ≤ 15 := by omega
  have x1 : 0 ≤ x := by omega
  have x2 : x ≤ 15 := by omega
  clear hx
  go_enter Tryz.func175, Tryz.ntmps175
  go_wp2
  go_quiet (fail)
  go_wp2
  all_goals
    go_ret3
    exact ⟨rfl, below_drewN (Below.refl _ _) _⟩

set_option maxRecDepth 100000 in
set_option maxHeartbeats 400000 in
theorem pUnpack_e2_0 (s : ByteArray) (w : World) (h0 : 0 < s.size) (h : s.size ≤ 65) (x : Int) (hm : (s[0].toNat : Int) / 16 = 0) (hx : (s[0].toNat : Int) % 16 = x) (hx0 : x ≠ 0) :
    Calls Tryz.prog 175 #[.string s] w fun e w' => e = .returned (.tuple #[.slice none 0 0, .bool false, .int .i64 7]) ∧ Below w.heap.size w w' := by
  have hne := ne_empty h0
  have hb2 : (s[0].toNat : Int) < 256 := by have := s[0].toNat_lt; omega
  have hbt := and15 s[0]
  rw [hx] at hbt
  have x1 : 0 ≤ x := by omega
  have x2 : x ≤ 15 := by omega
  clear hx
  have p1 : bits BinOp.and IntKind.i64 0 1 = 0 := by decide +kernel
  have hxb : (x != 0) = true := by simp [hx0]
  go_enter Tryz.func175, Tryz.ntmps175
  go_wp2
  go_quiet (fail)
  go_wp2
  all_goals
    go_ret3
    exact ⟨rfl, below_drewN (Below.refl _ _) _⟩

set_option maxRecDepth 100000 in
set_option maxHeartbeats 400000 in
theorem pUnpack_e2_2 (s : ByteArray) (w : World) (h0 : 0 < s.size) (h : s.size ≤ 65) (x : Int) (hm : (s[0].toNat : Int) / 16 = 2) (hx : (s[0].toNat : Int) % 16 = x) (hx0 : x ≠ 0) :
    Calls Tryz.prog 175 #[.string s] w fun e w' => e = .returned (.tuple #[.slice none 0 0, .bool false, .int .i64 7]) ∧ Below w.heap.size w w' := by
  have hne := ne_empty h0
  have hb2 : (s[0].toNat : Int) < 256 := by have := s[0].toNat_lt; omega
  have hbt := and15 s[0]
  rw [hx] at hbt
  have x1 : 0 ≤ x := by omega
  have x2 : x ≤ 15 := by omega
  clear hx
  have p1 : bits BinOp.and IntKind.i64 2 1 = 0 := by decide +kernel
  have hxb : (x != 0) = true := by simp [hx0]
  go_enter Tryz.func175, Tryz.ntmps175
  go_wp2
  go_quiet (fail)
  go_wp2
  all_goals
    go_ret3
    exact ⟨rfl, below_drewN (Below.refl _ _) _⟩

set_option maxRecDepth 100000 in
set_option maxHeartbeats 400000 in
theorem pUnpack_e3_1 (s : ByteArray) (w : World) (h0 : 0 < s.size) (h : s.size ≤ 65) (x : Int) (hm : (s[0].toNat : Int) / 16 = 1) (hx : (s[0].toNat : Int) % 16 = x) (hl : 64 < s.size) :
    Calls Tryz.prog 175 #[.string s] w fun e w' => e = .returned (.tuple #[.slice none 0 0, .bool false, .int .i64 7]) ∧ Below w.heap.size w w' := by
  have hne := ne_empty h0
  have hb2 : (s[0].toNat : Int) < 256 := by have := s[0].toNat_lt; omega
  have hbt := and15 s[0]
  rw [hx] at hbt
  have x1 : 0 ≤ x := by omega
  have x2 : x ≤ 15 := by omega
  clear hx
  have p1 : bits BinOp.and IntKind.i64 1 1 = 1 := by decide +kernel
  go_enter Tryz.func175, Tryz.ntmps175
  go_wp2
  go_quiet (fail)
  go_wp2
  all_goals
    go_ret3
    exact ⟨rfl, below_drewN (Below.refl _ _) _⟩

set_option maxRecDepth 100000 in
set_option maxHeartbeats 400000 in
theorem pUnpack_e3_3 (s : ByteArray) (w : World) (h0 : 0 < s.size) (h : s.size ≤ 65) (x : Int) (hm : (s[0].toNat : Int) / 16 = 3) (hx : (s[0].toNat : Int) % 16 = x) (hl : 64 < s.size) :
    Calls Tryz.prog 175 #[.string s] w fun e w' => e = .returned (.tuple #[.slice none 0 0, .bool false, .int .i64 7]) ∧ Below w.heap.size w w' := by
  have hne := ne_empty h0
  have hb2 : (s[0].toNat : Int) < 256 := by have := s[0].toNat_lt; omega
  have hbt := and15 s[0]
  rw [hx] at hbt
  have x1 : 0 ≤ x := by omega
  have x2 : x ≤ 15 := by omega
  clear hx
  have p1 : bits BinOp.and IntKind.i64 3 1 = 1 := by decide +kernel
  go_enter Tryz.func175, Tryz.ntmps175
  go_wp2
  go_quiet (fail)
  go_wp2
  all_goals
    go_ret3
    exact ⟨rfl, below_drewN (Below.refl _ _) _⟩

end Go.Proofs.YthdjmldddjljfaaGreatDoor.V
