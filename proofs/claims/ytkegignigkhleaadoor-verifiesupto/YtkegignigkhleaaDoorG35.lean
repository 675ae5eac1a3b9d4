/-
  OUR OWN: VqR VqS VqT.
-/
import Derived.Test.YtkegignigkhleaaDoorG34
import Derived.Deep.RegionHeld3
import Derived.Test.YtkegignigkhleaaDoorG33
import Derived.Deep.RegionLaw
namespace Go.Proofs.YtkegignigkhleaaDoor
open Go.RowKit
attribute [local go_sem ↓] Go.wp_at_zero Go.wp_at_succ

/-- how many texts the shelf S still has -/
def shLen (w : World) (S : Nat) : Nat := match w.cell? ⟨S, 0, none⟩ with
  | some (.slice _ n _) => n
  | _ => 0
theorem Sh.len {w : World} {S : Nat} {ts : List ByteArray} (h : Sh w S ts) : shLen w S = ts.length := by
  obtain ⟨ao, cap, h1, _⟩ := h
  unfold shLen
  rw [cell_of_row _ _ 0 _ _ (0, 0) h1]
  rfl
theorem ThRow.grow {base : Nat} {w w' : World} {v : Value} {L : List Th} {S : Nat} {ts : List ByteArray} (h : ThRow base w v L) (hu : Sh w S ts) (hg : w.grownBy w' (some S)) : ThRow base w' v L := by
  have hk := hu.kpi hg
  obtain ⟨css, h1, h2⟩ := h
  refine ⟨css, ⟨h1.1, ?_⟩, h2.mono (fun _ _ h => h.keep hk)⟩
  rcases h1.2 with h0 | ⟨g, c, cur, e1, e2, e3, r⟩
  · exact .inl h0
  · refine .inr ⟨g, c, cur, e1, e2, ?_, r⟩
    rw [hg.block g (Array.getElem?_eq_some_iff.1 e3).1]
    · exact e3
    · intro e
      injection e with e
      subst e
      obtain ⟨ao, cap, k1, _⟩ := hu
      rw [e3] at k1
      simp only [Option.some.injEq, Obj.cells.injEq] at k1
      exact absurd k1.2.1 (by decide)
theorem ThRow.ne {base : Nat} {w : World} {g n cap S : Nat} {L : List Th} {ts : List ByteArray} (h : ThRow base w (.slice (some ⟨g, 0, none⟩) n cap) L) (hu : Sh w S ts) : g < w.heap.size ∧ g ≠ S := by
  obtain ⟨css, h1, h2⟩ := h
  rcases h1.2 with ⟨h0, _⟩ | ⟨g', c, cur, e1, e2, e3, r⟩
  · cases h0
  · obtain rfl : g = g' := by simp at e1; exact e1.1
    refine ⟨(Array.getElem?_eq_some_iff.1 e3).1, ?_⟩
    rintro rfl
    obtain ⟨ao, cap, k1, _⟩ := hu
    rw [e3] at k1
    simp only [Option.some.injEq, Obj.cells.injEq] at k1
    exact absurd k1.2.1 (by decide)
theorem goL_step {H : ByteArray → ByteArray} {P : List Int} {t : ByteArray} {ts : List ByteArray} {L : List Th} {i : Nat} (hi : i < L.length) (h : hashOn P (L.getD i th0) = true) (hb : ∀ j, j < i → hashOn P (L.getD j th0) = false) :
    goL H P (t :: ts) L = match openV H t (L.getD i th0).hash (L.getD i th0).path (L.getD i th0).under true with
      | none => none
      | some m => goL H P ts (L.take i ++ m ++ L.drop (i + 1)) := by
  obtain ⟨k1, k2⟩ := findIdx_eq hi h hb
  rw [goL, k1, k2, if_pos rfl]; rfl
theorem goL_none {H : ByteArray → ByteArray} {P : List Int} {L : List Th} {i : Nat} (hi : i < L.length) (h : hashOn P (L.getD i th0) = true) (hb : ∀ j, j < i → hashOn P (L.getD j th0) = false) : goL H P [] L = none := by
  obtain ⟨k1, _⟩ := findIdx_eq hi h hb
  rw [goL, k1, if_pos rfl]
theorem goL_done {H : ByteArray → ByteArray} {P : List Int} {ts : List ByteArray} {L : List Th} (hb : ∀ j, j < L.length → hashOn P (L.getD j th0) = false) : goL H P ts L = some (L, ts) := goL_stay (any_none hb)
theorem Short.split {L M : List Th} (h : Short L) (h2 : Short M) (i : Nat) : Short (L.take i ++ M ++ L.drop (i + 1)) := fun x hx => by
  rw [List.mem_append, List.mem_append] at hx
  rcases hx with (hx | hx) | hx
  · exact h x (List.mem_of_mem_take hx)
  · exact h2 x hx
  · exact h x (List.mem_of_mem_drop hx)
/-- what reading along a path answers -/
def AlongPost (S : Nat) (o : Option (List Th × List ByteArray)) (w : World) (e : Ending) (w' : World) : Prop :=
  w.grownBy w' (some S) ∧ match o with
    | none => ∃ er : Int, er ≠ 0 ∧ e = .returned (.tuple #[.slice none 0 0, .int .i64 er])
    | some (L, ts) => ∃ v, e = .returned (.tuple #[v, .int .i64 0]) ∧ ThRow 0 w' v L ∧ Sh w' S ts ∧ Short L ∧ L.length ≤ 10000000000
theorem AlongPost.none {S : Nat} {o : Option (List Th × List ByteArray)} {w w' : World} {e : Ending} (ho : o = .none) (h1 : w.grownBy w' (some S)) (er : Int) (h2 : er ≠ 0) (h3 : e = .returned (.tuple #[.slice .none 0 0, .int .i64 er])) : AlongPost S o w e w' := by
  subst ho; exact ⟨h1, er, h2, h3⟩
theorem AlongPost.some {S : Nat} {o : Option (List Th × List ByteArray)} {L : List Th} {ts : List ByteArray} {w w' : World} {e : Ending} (ho : o = .some (L, ts)) (h1 : w.grownBy w' (some S)) (v : Value) (h2 : e = .returned (.tuple #[v, .int .i64 0])) (h3 : ThRow 0 w' v L) (h4 : Sh w' S ts) (h5 : Short L) (h6 : L.length ≤ 10000000000) : AlongPost S o w e w' := by
  subst ho; exact ⟨h1, v, h2, h3, h4, h5, h6⟩
theorem hashOn_eq (P : List Int) (x : Th) : hashOn P x = (decide (x.hash.size ≠ 0) && x.path.isPrefixOf P) := rfl

set_option maxHeartbeats 8000000 in
set_option maxRecDepth 20000 in
theorem along_any (S : Nat) (lv : Value) (L : List Th) (pa : Option Addr) (pc : Nat) (P : List Int) (ts : List ByteArray) (w : World) (hr : ThRow 0 w lv L) (hs : Short L) (hu : Sh w S ts) (hp : PSl w pa pc P) (hP : P.length ≤ 100000) (hts : ∀ t ∈ ts, t.size ≤ 140737488351232) (hL : L.length + 6000 * ts.length ≤ 10000000000) :
    Calls Tryd.prog 11 #[ptr S, lv, .slice pa P.length pc] w fun e w' => AlongPost S (goL hashOf P ts L) w e w' := by
  obtain ⟨G, hG⟩ : ∃ G, Hid (goL hashOf P ts L = G) := ⟨_, Eq.refl _⟩
  rw [hG.out]
  have HR := hide hr
  have HS := hide hs
  have HU := hide hu
  have HP : Hid (∀ W, w.grownBy W (some S) → PSl W pa pc P) := fun W hW => hp.keep (hu.kpi hW)
  have HT := hide hts
  obtain ⟨ao, cap, rfl⟩ := hr.shape
  unfold ptr
  clear hr hs hu hp hts
  go_enter Tryd.func11, Tryd.ntmps11
  go_wp2_with fail
  go_loopw [1, 8] (fun v iv wr => ∃ (i : Nat) (M : List Th) (us : List ByteArray), i ≤ M.length ∧ iv = .int .i64 (i : Int) ∧ Hid (ThRow 0 wr v M) ∧ Hid (Sh wr S us) ∧ Hid (w.grownBy wr (some S)) ∧ Hid (Short M) ∧ M.length + 6000 * us.length ≤ 10000000000 ∧ Hid (∀ t ∈ us, t.size ≤ 140737488351232) ∧ Hid (∀ j, j < i → hashOn P (M.getD j th0) = false) ∧ Hid (goL hashOf P us M = G)) (fun v iv wr => shLen wr S * 10000000002 + (sliceLen v - (intOf iv).toNat))
  case atStart => exact ⟨0, L, ts, by omega, rfl, HR, HU, ⟨rfl, rfl, rfl, Nat.le_refl _, fun _ _ _ => rfl⟩, HS, hL, HT, fun j hj => by omega, hG⟩
  case round =>
    obtain ⟨i, M, us, hi, rfl, HRr, HUr, HGr, HSr, hLr, HTr, HNr, HEr⟩ := hrel
    by_cases hil : i < M.length
    · have j0 : (0 : Int) ≤ (i : Int) := by omega
      have j1 : (i : Int) < (M.length : Int) := by omega
      obtain ⟨g, cap', qa, qc, rfl, hq, x0, x1, x2, x3⟩ := HRr.out.cellAt i hil
      have HBg := hide (begins_any pa qa pc qc P (M.getD i th0).path wr (HP.out wr HGr.out) hq hP (by have := HSr.out.at i; omega))
      have HQ := hide hq
      have HK : Hid (∀ W, Below wr.heap.size wr W → W.cell? ⟨g, i * 4, none⟩ = some (.slice qa (M.getD i th0).path.length qc) ∧ W.cell? ⟨g, i * 4 + 2, none⟩ = some (.string (M.getD i th0).hash) ∧ W.cell? ⟨g, i * 4 + 3, none⟩ = some (.bool (M.getD i th0).under)) := fun W hW => ⟨(hW.cell (p := ⟨g, i * 4, none⟩) (World.block_lt_of_cell? wr _ x0)).trans x0, (hW.cell (p := ⟨g, i * 4 + 2, none⟩) (World.block_lt_of_cell? wr _ x2)).trans x2, (hW.cell (p := ⟨g, i * 4 + 3, none⟩) (World.block_lt_of_cell? wr _ x3)).trans x3⟩
      have HX : Hid (hashOn P (M.getD i th0) = (decide ((M.getD i th0).hash.size ≠ 0) && (M.getD i th0).path.isPrefixOf P) ∧ (M.getD i th0).path.length ≤ 128) := ⟨rfl, HSr.out.at i⟩
      have HNx : Hid (hashOn P (M.getD i th0) = false → ∀ j, j < i + 1 → hashOn P (M.getD j th0) = false) := fun h j hj => by
        by_cases e : j = i
        · rw [e]; exact h
        · exact HNr.out j (by omega)
      have HG0 : Hid (hashOn P (M.getD i th0) = true → us = [] → G = none) := fun h e => by
        rw [← HEr.out, e]; exact goL_none hil h HNr.out
      have HG1 : Hid (∀ t us', hashOn P (M.getD i th0) = true → us = t :: us' → G = match openV hashOf t (M.getD i th0).hash (M.getD i th0).path (M.getD i th0).under true with
          | none => none
          | some m => goL hashOf P us' (M.take i ++ m ++ M.drop (i + 1))) := fun t us' h e => by
        rw [← HEr.out, e]; exact goL_step hil h HNr.out
      generalize hx : M.getD i th0 = x at *
      clear hx hq x1
      go_wp2_with fail
      refine HBg.out.mono ?_
      rintro e w2 ⟨rfl, hb2⟩
      obtain ⟨y0, y2, y3⟩ := HK.out w2 hb2
      have HB2 := hide hb2
      have HG2 : Hid (w.grownBy w2 (some S)) := grown_then HGr.out hb2
      have HU2 : Hid (Sh w2 S us) := HUr.out.keep hb2
      have HR2 : Hid (ThRow 0 w2 (.slice (some ⟨g, 0, none⟩) M.length cap') M) := HRr.out.keep hb2
      have HC : Hid (∀ W w', Below w2.heap.size w2 W → W.grownBy w' (some S) → w'.cell? ⟨g, i * 4, none⟩ = some (.slice qa x.path.length qc) ∧ w'.cell? ⟨g, i * 4 + 2, none⟩ = some (.string x.hash) ∧ w'.cell? ⟨g, i * 4 + 3, none⟩ = some (.bool x.under)) := fun W w' h1 h2 => by
        obtain ⟨n1, n2⟩ := (HR2.out.keep h1).ne (HU2.out.keep h1)
        obtain ⟨z0, z2, z3⟩ := HK.out W (HB2.out.trans (h1.mono HB2.out.size))
        have hb := h2.block g n1 (fun e => n2 (by injection e))
        exact ⟨(World.cell?_of_block (w := W) (a := ⟨g, i * 4, none⟩) hb).trans z0, (World.cell?_of_block (w := W) (a := ⟨g, i * 4 + 2, none⟩) hb).trans z2, (World.cell?_of_block (w := W) (a := ⟨g, i * 4 + 3, none⟩) hb).trans z3⟩
      clear hb2 x0 x2 x3
      by_cases hon : hashOn P x = true
      · have hh : x.hash.size ≠ 0 := by
          have := HX.out.1
          rw [hon] at this
          have := this.symm
          rw [Bool.and_eq_true, decide_eq_true_eq] at this
          exact this.1
        have hpre : x.path.isPrefixOf P = true := by
          have := HX.out.1
          rw [hon] at this
          have := this.symm
          rw [Bool.and_eq_true] at this
          exact this.2
        have hne := str_empty hh
        rw [hpre]
        cases us with
        | nil =>
          obtain rfl := HG0.out hon rfl
          have HO : Hid (∀ W, Below w2.heap.size w2 W → Calls Tryd.prog 19 #[.pointer (some ⟨S, 0, none⟩), .string x.hash, .slice qa x.path.length qc, .bool x.under, .int .i64 32] W fun e w' => e = .returned (.tuple #[.slice none 0 0, .int .i64 11]) ∧ Hid (w.grownBy w' (some S)) ∧ w'.cell? ⟨g, i * 4, none⟩ = some (.slice qa x.path.length qc) ∧ w'.cell? ⟨g, i * 4 + 2, none⟩ = some (.string x.hash) ∧ w'.cell? ⟨g, i * 4 + 3, none⟩ = some (.bool x.under)) := fun W hW => (open_none S x.hash qa x.path.length qc x.under 32 W (HU2.out.keep hW)).mono (fun e w' h => ⟨h.1, grown_then (grown_then HG2.out hW) h.2, HC.out W w' hW (grown_below h.2)⟩)
          clear hon hh hpre
          go_wp2_with fail
          go_region_held3 (fun W => W.cell? ⟨g, i * 4, none⟩ = some (.slice qa x.path.length qc) ∧ W.cell? ⟨g, i * 4 + 2, none⟩ = some (.string x.hash) ∧ W.cell? ⟨g, i * 4 + 3, none⟩ = some (.bool x.under)) (first | go_keep | (simp [*])) ((go_at_call 19; refine (HO.out _ (Below.refl _ _).drew).mono ?_; rintro e w3 ⟨rfl, HG3, d0, d2, d3⟩))
          all_goals
            go_wp2
            go_ret2
            exact AlongPost.none rfl (by first | exact HG3.out | exact grown_then HG3.out (Below.refl _ _).drew) 11 (by decide) rfl
        | cons t us =>
          have HE := hide (HG1.out t us hon rfl)
          have HO : Hid (∀ W, Below w2.heap.size w2 W → Calls Tryd.prog 19 #[.pointer (some ⟨S, 0, none⟩), .string x.hash, .slice qa x.path.length qc, .bool x.under, .int .i64 32] W fun e w' => (match openV hashOf t x.hash x.path x.under true with
              | some l => ∃ mo mc, e = .returned (.tuple #[.slice mo l.length mc, .int .i64 0]) ∧ ThRow 0 w' (.slice mo l.length mc) l
              | none => ∃ er : Int, er ≠ 0 ∧ e = .returned (.tuple #[.slice none 0 0, .int .i64 er])) ∧ w.grownBy w' (some S) ∧ Sh w' S us ∧ ThRow 0 w' (.slice (some ⟨g, 0, none⟩) M.length cap') M ∧ w'.cell? ⟨g, i * 4, none⟩ = some (.slice qa x.path.length qc) ∧ w'.cell? ⟨g, i * 4 + 2, none⟩ = some (.string x.hash) ∧ w'.cell? ⟨g, i * 4 + 3, none⟩ = some (.bool x.under)) := fun W hW => by
            have hU := HU2.out.keep hW
            refine (open_any S x.hash t us qa qc x.path x.under true W hU (HTr.out t (List.mem_cons_self ..)) ((HQ.out.keep (KpI.of_below HB2.out)).keep (KpI.of_below hW)) (by have := HX.out.2; omega)).mono ?_
            rintro e w' ⟨h1, h2, h3⟩
            refine ⟨?_, grown_both (grown_then HG2.out hW) h1, h2, (HR2.out.keep hW).grow hU h1, HC.out W w' hW h1⟩
            generalize openV hashOf t x.hash x.path x.under true = ov at *
            cases ov with
            | none => exact h3
            | some l =>
              obtain ⟨v, rfl, h4⟩ := h3
              obtain ⟨mo, mc, rfl⟩ := h4.shape
              exact ⟨mo, mc, rfl, h4.base (Nat.zero_le _)⟩
          have HV : Hid (∀ l, openV hashOf t x.hash x.path x.under true = some l → Short l ∧ l.length ≤ 6000) := fun l h => openV_short h
          generalize openV hashOf t x.hash x.path x.under true = ov at *
          clear hon hh hpre
          cases ov with
          | none =>
            obtain rfl : G = none := HE.out
            go_wp2_with fail
            go_region_held3 (fun W => W.cell? ⟨g, i * 4, none⟩ = some (.slice qa x.path.length qc) ∧ W.cell? ⟨g, i * 4 + 2, none⟩ = some (.string x.hash) ∧ W.cell? ⟨g, i * 4 + 3, none⟩ = some (.bool x.under)) (first | go_keep | (simp [*])) ((go_at_call 19; refine (HO.out _ (Below.refl _ _).drew).mono ?_; rintro e w3 ⟨⟨er, her, rfl⟩, hg3, hu3, hr3, d0, d2, d3⟩; (have HG3 := hide (And.intro hg3 her)); (have e1 : (er != 0) = true := by simpa using her); clear hg3 hu3 hr3 her))
            all_goals
              go_wp2
              go_ret2
              exact AlongPost.none rfl (by first | exact HG3.out.1 | exact grown_then HG3.out.1 (Below.refl _ _).drew) er HG3.out.2 rfl
          | some m =>
            obtain ⟨hm1, hm2⟩ := HV.out m rfl
            have HM1 := hide hm1
            have HL4 : Hid ((M.take i ++ m ++ M.drop (i + 1)).length + 6000 * us.length ≤ 10000000000) := by
              show _ ≤ _
              simp only [List.length_append, List.length_take, List.length_drop, List.length_cons] at hLr ⊢
              omega
            have HRp : Hid (∀ W mo mc, ThRow 0 W (.slice (some ⟨g, 0, none⟩) M.length cap') M → ThRow 0 W (.slice mo m.length mc) m → Calls Tryd.prog 21 #[.slice (some ⟨g, 0, none⟩) M.length cap', .int .i64 (i : Int), .slice mo m.length mc] W fun e w' => ∃ rv, e = .returned rv ∧ ThRow W.heap.size w' rv (M.take i ++ m ++ M.drop (i + 1)) ∧ Below W.heap.size W w') := fun W mo mc h1 h2 => replaced_any 0 0 _ _ M m i W h1 h2 hil (by simp at hLr; omega)
            clear hm1
            go_wp2_with fail
            go_region_held3 (fun W => W.cell? ⟨g, i * 4, none⟩ = some (.slice qa x.path.length qc) ∧ W.cell? ⟨g, i * 4 + 2, none⟩ = some (.string x.hash) ∧ W.cell? ⟨g, i * 4 + 3, none⟩ = some (.bool x.under)) (first | go_keep | (simp [*])) ((go_at_call 19; refine (HO.out _ (Below.refl _ _).drew).mono ?_; rintro e w3 ⟨⟨mo, mc, rfl, hth⟩, hg3, hu3, hr3, d0, d2, d3⟩; (have HX3 := hide (And.intro hg3 (And.intro hu3 (And.intro hr3 hth)))); clear hg3 hu3 hr3 hth))
            go_wp2_with fail
            refine (HRp.out w3 mo mc HX3.out.2.2.1 HX3.out.2.2.2).mono ?_
            rintro e w4 ⟨rv, rfl, hth4, hb4⟩
            have HR4 := hide (hth4.base (Nat.zero_le _))
            have HG4 : Hid (w.grownBy w4 (some S)) := grown_then HX3.out.1 hb4
            have HU4 : Hid (Sh w4 S us) := HX3.out.2.1.keep hb4
            clear hth4 hb4
            go_wp2
            go_roundw
            case rel => exact ⟨0, M.take i ++ m ++ M.drop (i + 1), us, by omega, by go_num, HR4, HU4, HG4, HSr.out.split HM1.out i, HL4.out, fun u hu => HTr.out u (List.mem_cons_of_mem _ hu), fun j hj => by omega, HE.out.symm⟩
            case measure =>
              obtain ⟨ro, rc, rfl⟩ := HR4.out.shape
              have := HL4.out
              rw [HU4.out.len, HUr.out.len]
              simp only [sliceLen, List.length_cons]
              omega
      · have hf : hashOn P x = false := by simpa using hon
        have HN2 := hide (HNx.out hf)
        by_cases hh : x.hash.size = 0
        · have hem : x.hash = ⟨#[]⟩ := empty_of_size hh
          rw [hem] at y2
          generalize x.path.isPrefixOf P = z at *
          clear hon hf hem hh
          go_wp2
          go_roundw
          case rel => exact ⟨i + 1, M, us, by omega, by go_num, HR2, HU2, HG2, HSr, hLr, HTr, HN2.out, HEr⟩
          case measure =>
            rw [HU2.out.len, HUr.out.len]
            simp [intOf, sliceLen]; omega
        · have hne := str_empty hh
          have hpre : x.path.isPrefixOf P = false := by
            have := HX.out.1
            rw [hf] at this
            have := this.symm
            rw [Bool.and_eq_false_iff] at this
            rcases this with h | h
            · rw [decide_eq_false_iff_not] at h; exact absurd hh h
            · exact h
          rw [hpre]
          clear hon hf hh hpre
          go_wp2
          go_roundw
          case rel => exact ⟨i + 1, M, us, by omega, by go_num, HR2, HU2, HG2, HSr, hLr, HTr, HN2.out, HEr⟩
          case measure =>
            rw [HU2.out.len, HUr.out.len]
            simp [intOf, sliceLen]; omega
    · obtain rfl : i = M.length := by omega
      obtain ⟨mo, mc, rfl⟩ := HRr.out.shape
      have HD : Hid (G = some (M, us)) := by show _ = _; rw [← HEr.out]; exact goL_done HNr.out
      go_wp2
      go_ret2
      exact AlongPost.some HD.out HGr.out _ rfl HRr.out HUr.out HSr.out (by omega)
end Go.Proofs.YtkegignigkhleaaDoor
namespace Go.Proofs.YtkegignigkhleaaDoor
open Go.RowKit
attribute [local go_sem ↓] Go.wp_at_zero Go.wp_at_succ

/-- what the root of texts tells -/
def rootL (H : ByteArray → ByteArray) (ts : List ByteArray) (root : ByteArray) : Option (List Th × List ByteArray) := if root = root0 then some ([], ts) else match ts with
  | [] => none
  | t :: us => match openV H t root [] false false with
    | none => none
    | some L => some (L, us)
set_option maxHeartbeats 2000000 in
set_option maxRecDepth 20000 in
theorem rooted_any (S : Nat) (root : ByteArray) (ts : List ByteArray) (w : World) (hu : Sh w S ts) (hts : ∀ t ∈ ts, t.size ≤ 140737488351232) :
    Calls Tryd.prog 10 #[ptr S, .string root] w fun e w' => AlongPost S (rootL hashOf ts root) w e w' := by
  have HN := hide (rNone_any w)
  have HU := hide hu
  have HT := hide hts
  unfold ptr
  clear hu hts
  by_cases h0 : root = root0
  · have HE : Hid (rootL hashOf ts root = some ([], ts)) := by show _ = _; unfold rootL; rw [if_pos h0]
    have i3 : (root.toList == root0.toList) = true := by rw [h0]; simp
    clear h0
    generalize root0 = R at *
    go_enter Tryd.func10, Tryd.ntmps10
    go_wp2_with fail
    refine HN.out.mono ?_
    rintro e w1 ⟨rfl, hb⟩
    have HB := hide hb
    clear hb
    go_wp2
    go_ret2
    exact AlongPost.some HE.out (grown_below HB.out) _ rfl (ThRow.nil _ _) (HU.out.keep HB.out) (fun x hx => by cases hx) (by simp)
  · have i3 : (root.toList == root0.toList) = false := neq_str h0
    cases ts with
    | nil =>
      have HE : Hid (rootL hashOf [] root = none) := by show _ = _; unfold rootL; rw [if_neg h0]
      clear h0
      have HO : Hid (∀ W, Sh W S [] → Calls Tryd.prog 19 #[.pointer (some ⟨S, 0, none⟩), .string root, .slice none 0 0, .bool false, .int .i64 0] W fun e w' => e = .returned (.tuple #[.slice none 0 0, .int .i64 11]) ∧ Below W.heap.size W w') := fun W h => open_none S root none 0 0 false 0 W h
      generalize root0 = R at *
      go_enter Tryd.func10, Tryd.ntmps10
      go_wp2_with fail
      refine HN.out.mono ?_
      rintro e w1 ⟨rfl, hb⟩
      have HB := hide hb
      have HO1 := hide (HO.out w1 (HU.out.keep hb))
      clear hb
      go_wp2_with fail
      refine HO1.out.mono ?_
      rintro e w2 ⟨rfl, hb2⟩
      have HB2 : Hid (Below w.heap.size w w2) := HB.out.trans (hb2.mono HB.out.size)
      clear hb2
      go_wp2
      go_ret2
      exact AlongPost.none HE.out (grown_below HB2.out) 11 (by decide) rfl
    | cons t us =>
      have HE : Hid (rootL hashOf (t :: us) root = match openV hashOf t root [] false false with
          | none => none
          | some L => some (L, us)) := by show _ = _; unfold rootL; rw [if_neg h0]
      have HO : Hid (∀ W, Sh W S (t :: us) → Calls Tryd.prog 19 #[.pointer (some ⟨S, 0, none⟩), .string root, .slice none 0 0, .bool false, .int .i64 0] W fun e w' => OpenPost S (openV hashOf t root [] false false) us W e w') := fun W h => by
        have := open_any S root t us none 0 [] false false W h (HT.out t (List.mem_cons_self ..)) (PSl.empty W) (by simp)
        simpa [ptr] using this
      have HV : Hid (∀ l, openV hashOf t root [] false false = some l → Short l ∧ l.length ≤ 6000) := fun l h => openV_short h
      clear h0
      generalize openV hashOf t root [] false false = ov at *
      generalize root0 = R at *
      go_enter Tryd.func10, Tryd.ntmps10
      go_wp2_with fail
      refine HN.out.mono ?_
      rintro e w1 ⟨rfl, hb⟩
      have HB := hide hb
      have HO1 := hide (HO.out w1 (HU.out.keep hb))
      clear hb
      go_wp2_with fail
      refine HO1.out.mono ?_
      rintro e w2 ⟨hg, hs, hpp⟩
      have HX : Hid (w.grownBy w2 (some S) ∧ Sh w2 S us) := ⟨grown_both (grown_below HB.out) hg, hs⟩
      clear hg hs
      cases ov with
      | none =>
        obtain ⟨er, her, rfl⟩ := hpp
        have HER := hide her
        clear her
        go_wp2
        go_ret2
        exact AlongPost.none HE.out HX.out.1 er HER.out rfl
      | some L =>
        obtain ⟨v, rfl, hth⟩ := hpp
        have HTH := hide (hth.base (Nat.zero_le _))
        obtain ⟨mo, mc, rfl⟩ := hth.shape
        clear hth
        go_wp2
        go_ret2
        exact AlongPost.some HE.out HX.out.1 _ rfl HTH.out HX.out.2 (HV.out L rfl).1 (by have := (HV.out L rfl).2; omega)

def ecell (t : ByteArray) : List Value := [.string ⟨#[]⟩, .string t]
def ecells (ts : List ByteArray) : List Value := ts.flatMap ecell
theorem ecells_append (ts us : List ByteArray) : ecells (ts ++ us) = ecells ts ++ ecells us := by simp [ecells]
theorem ecells_one (t : ByteArray) : ecells [t] = ecell t := by simp [ecells]
theorem ecells_at : ∀ (ts : List ByteArray) (i : Nat), i < ts.length → (ecells ts)[i * 2 + 1]? = some (.string (ts.getD i eB))
  | t :: ts, 0, _ => by simp [ecells, ecell]
  | t :: ts, i + 1, h => by
    have ih := ecells_at ts i (by simpa using h)
    rw [show ecells (t :: ts) = ecell t ++ ecells ts from by simp [ecells], List.getElem?_append_right (by simp [ecell]; omega), show (i + 1) * 2 + 1 - (ecell t).length = i * 2 + 1 from by simp [ecell]; omega, ih]
    simp
/-- the shelf in the making -/
structure SB (w : World) (S : Nat) (lv : Value) (ts : List ByteArray) : Prop where
  blk : w.heap[S]? = some (.cells #[lv, .bool true] 34 (0, 0))
  own : w.ownsRow (S + 1) 36 2 lv ts.length (ecells ts)
theorem SB.lt {w : World} {S : Nat} {lv : Value} {ts : List ByteArray} (h : SB w S lv ts) : S < w.heap.size := (Array.getElem?_eq_some_iff.1 h.blk).1
theorem SB.sh {w : World} {S : Nat} {lv : Value} {ts : List ByteArray} (h : SB w S lv ts) : Sh w S ts := by
  obtain ⟨hb, ho⟩ := h
  have ho' := ho
  rcases ho.2 with ⟨rfl, h0⟩ | ⟨g, c, cur, rfl, h2, h3, h4, _⟩
  · exact ⟨none, 0, by rw [h0]; exact hb, by omega, fun i hi => by omega⟩
  · refine ⟨some ⟨g, 0, none⟩, c, hb, h4, fun i hi => ⟨g, 0, rfl, by omega, ?_⟩⟩
    have := ho'.cells (g := g) rfl (i * 2 + 1) _ (ecells_at ts i hi)
    rwa [addr_add] at this
theorem SB.shape {w : World} {S : Nat} {lv : Value} {ts : List ByteArray} (h : SB w S lv ts) : ∃ ao cap, lv = .slice ao ts.length cap := by
  rcases h.own.2 with ⟨rfl, h0⟩ | ⟨g, c, cur, rfl, _⟩
  · exact ⟨none, 0, by rw [h0]⟩
  · exact ⟨_, c, rfl⟩
theorem SB.row_ne {w : World} {S : Nat} {lv : Value} {ts : List ByteArray} (h : SB w S lv ts) : lv.ownBlock ≠ some S := by
  intro e
  have := own_ge h.own (Nat.le_refl _) S e
  omega
theorem SB.start (w : World) : SB (w.alloc (.cells #[.slice none 0 0, .bool true] 34)) w.heap.size (.slice none 0 0) [] := ⟨heap_alloc_new w _, World.ownsRow_nil _ _ _ _⟩
theorem infoEn : (Tryd.prog.info? 36).map (fun i => (i.zero, i.size, i.bytes)) = some (some (.agg #[.string ⟨#[]⟩, .string ⟨#[]⟩]), 2, 32) := by kernel_rfl
/-- behind the append, and behind the store -/
theorem SB.push {w w3 w4 : World} {S n : Nat} {lv : Value} {ts : List ByteArray} {t : ByteArray} {o : Obj} {g c : Nat} (h : SB w S lv ts) (hn : ts.length = n) (hw : w3 = (w.alloc o).drew)
    (ho : w4.ownsRow (S + 1) 36 2 (.slice (some ⟨g, 0, none⟩) (n + 1) c) (n + 1) (ecells ts ++ ecell t)) (hg : w3.grownBy w4 lv.ownBlock) (hat : lv.ownBlock = some g ∨ g = w3.heap.size) :
    w4.cell? ⟨S, 0, none⟩ = some lv ∧ w4.frozen? ⟨S, 0, none⟩ = false ∧ SB (w4.setCell ⟨S, 0, none⟩ (.slice (some ⟨g, 0, none⟩) (n + 1) c)) S (.slice (some ⟨g, 0, none⟩) (n + 1) c) (ts ++ [t]) ∧ Below S w (w4.setCell ⟨S, 0, none⟩ (.slice (some ⟨g, 0, none⟩) (n + 1) c)) := by
  subst hw
  subst hn
  have hS := h.lt
  have h3 : ∀ b, b < w.heap.size → lv.ownBlock ≠ some b → w4.heap[b]? = w.heap[b]? := by
    intro b hb1 hb2
    rw [hg.block b (by simp; omega) (fun e => hb2 e.symm)]
    exact Below.heap_alloc w o b hb1
  have h4 : w4.heap[S]? = some (.cells #[lv, .bool true] 34 (0, 0)) := by rw [h3 S hS h.row_ne]; exact h.blk
  have hgS : g ≠ S := by
    rintro rfl
    rcases hat with e | e
    · exact h.row_ne e
    · simp at e; omega
  refine ⟨cell_of_row w4 S 0 _ _ (0, 0) h4, frozen_of_row w4 S 0 _ _ h4, ⟨heap_setCell_same w4 S 0 _ 34 _ h4, ?_⟩, ?_⟩
  · rw [ecells_append, ecells_one, List.length_append]
    refine own_far ho (fun k e _ => ?_)
    obtain rfl : g = k := by simpa [Value.ownBlock] using e
    exact Below.heap_setCell _ _ _ _ hgS
  · have hb : Below S w w4 := ((Below.refl S w).alloc (Nat.le_of_lt hS) o).drew.grown hg (by simp; omega) (fun k e => Nat.le_of_succ_le (own_ge h.own (Nat.le_refl _) k e))
    exact hb.setCell (Nat.le_refl _) _
theorem ecell_news (w : World) (t : ByteArray) : ∀ j u, (ecell t)[j]? = some u → (w.alloc (.cells #[.string ⟨#[]⟩, .string t] 36)).cell? ((⟨w.heap.size, 0, none⟩ : Addr).add j) = some u :=
  World.news_of_block (cs := #[.string ⟨#[]⟩, .string t]) (t := 36) (fr := (0, 0)) (heap_alloc_new w _)
end Go.Proofs.YtkegignigkhleaaDoor
namespace Go.Proofs.YtkegignigkhleaaDoor
open Go.RowKit
attribute [local go_sem ↓] Go.wp_at_zero Go.wp_at_succ

/-- all that is read -/
def verR (root : ByteArray) (P : List Int) (ts : List ByteArray) : Option (List Th × List ByteArray) := match rootL hashOf ts root with
  | none => none
  | some (L, us) => goL hashOf P us L
/-- what is answered then -/
def ansR (P : List Int) : Option (List Th × List ByteArray) → ByteArray × Bool × Int
  | some (L, []) => if L.any (atF P) = true then ((L.getD (L.findIdx (atF P)) th0).value, true, 0) else (eB, false, 0)
  | _ => (eB, false, 13)
theorem ansR_verV (root key : ByteArray) (ts : List ByteArray) (hk : key.size ≤ 64) : verV hashOf root0 root key (nibs key.data.toList) ts = ansR (nibs key.data.toList) (verR root (nibs key.data.toList) ts) := by
  unfold verV
  rw [if_neg (by omega)]
  generalize hP : nibs key.data.toList = P
  have hPn : ∀ i ∈ P, 0 ≤ i ∧ i < 16 := fun i hi => by
    subst hP
    have := List.all_eq_true.1 (nibs_nib key.data.toList) i hi
    simp [nib] at this; omega
  by_cases h0 : root = root0
  · rw [if_pos h0]
    have : verR root P ts = some ([], ts) := by
      unfold verR rootL
      rw [if_pos h0]
      exact goL_stay rfl
    rw [this]
    cases ts with
    | nil => rfl
    | cons t us => rfl
  · rw [if_neg h0]
    have hv : verR root P ts = refV hashOf P ts root := by
      unfold verR rootL refV
      rw [if_neg h0]
      cases ts with
      | nil => rfl
      | cons t us =>
        simp only
        cases openV hashOf t root [] false false <;> rfl
    have h := refV_goV hashOf P hPn ts root
    rw [hv]
    cases hg : goV hashOf ts root 0 false false P with
    | none =>
      rw [hg] at h
      simp only at h
      rw [h]; rfl
    | some r =>
      obtain ⟨o, us⟩ := r
      rw [hg] at h
      obtain ⟨L, h1, h2⟩ := h
      rw [h1]
      cases us with
      | cons t us => rfl
      | nil =>
        have h3 := at_of_filter h2
        cases o with
        | none =>
          simp only at h3
          simp only [ansR, h3]
          rfl
        | some v =>
          simp only at h3
          simp only [ansR, h3.1, h3.2.2]
          rfl
theorem ansR_none {P : List Int} {o : Option (List Th × List ByteArray)} (h : o = none) : ansR P o = (eB, false, 13) := by subst h; rfl
theorem ansR_more {P : List Int} {o : Option (List Th × List ByteArray)} {L : List Th} {t : ByteArray} {us : List ByteArray} (h : o = some (L, t :: us)) : ansR P o = (eB, false, 13) := by subst h; rfl

set_option maxHeartbeats 1000000 in
set_option maxRecDepth 20000 in
theorem rVerify_key (root key : ByteArray) (pv : Value) (w : World) (hk : 64 < key.size) :
    Calls Tryd.prog 5 #[.string root, .string key, pv] w fun e w' => e = ansV (eB, false, 8) ∧ Below w.heap.size w w' := by
  have i1 : (64 : Int) < (key.size : Int) := by omega
  go_enter Tryd.func5, Tryd.ntmps5
  go_wp2
  refine bodyPost_ret (v := .tuple #[.string ⟨#[]⟩, .bool false, .int .i64 8]) (by simp [results, Tryd.results5, go_sem]) rfl ⟨rfl, Below.refl _ _⟩
theorem take_one (ts : List ByteArray) (i : Nat) (h : i < ts.length) : ts.take (i + 1) = ts.take i ++ [ts.getD i eB] := by
  rw [List.take_succ_eq_append_getElem h, List.getD_eq_getElem?_getD, List.getElem?_eq_getElem h]; rfl
set_option maxHeartbeats 8000000 in
set_option maxRecDepth 20000 in
theorem rVerify_go (root key : ByteArray) (ao : Option Addr) (cap : Nat) (ts : List ByteArray) (w : World) (htx : Txts w ao ts) (hts : ∀ t ∈ ts, t.size ≤ 140737488351232) (hl : ts.length ≤ 1100000) (hk : key.size ≤ 64) :
    Calls Tryd.prog 5 #[.string root, .string key, .slice ao ts.length cap] w fun e w' => e = ansV (ansR (nibs key.data.toList) (verR root (nibs key.data.toList) ts)) ∧ Below w.heap.size w w' := by
  obtain ⟨i0, hi, hz0, hz1, hz2⟩ := info_parts infoEn
  have i1 : (key.size : Int) ≤ 64 := by omega
  have HX := hide htx
  have HT := hide hts
  have hkl : key.data.toList.length = key.size := by rw [Array.length_toList]; rfl
  have hnl : (nibs key.data.toList).length = 2 * key.size := by rw [nibs_length, hkl]
  have HH := hide (fun W => halves_any key W (by omega))
  rw [← hnl] at HH
  have HPl : Hid ((nibs key.data.toList).length ≤ 128) := by show _ ≤ _; omega
  have HRo : Hid (∀ W, Sh W w.heap.size ts → Calls Tryd.prog 10 #[.pointer (some ⟨w.heap.size, 0, none⟩), .string root] W fun e w' => AlongPost w.heap.size (rootL hashOf ts root) W e w') := fun W h => rooted_any w.heap.size root ts W h hts
  have HRl : Hid (∀ L us, rootL hashOf ts root = some (L, us) → (∀ t ∈ us, t.size ≤ 140737488351232) ∧ us.length ≤ ts.length ∧ L.length ≤ 6000) := fun L us h => by
    unfold rootL at h
    split at h
    · simp only [Option.some.injEq, Prod.mk.injEq] at h
      obtain ⟨rfl, rfl⟩ := h
      exact ⟨hts, Nat.le_refl _, by simp⟩
    · split at h
      · cases h
      · split at h
        · cases h
        · rename_i t us' _ L' hL'
          simp only [Option.some.injEq, Prod.mk.injEq] at h
          obtain ⟨rfl, rfl⟩ := h
          exact ⟨fun t ht => hts t (List.mem_cons_of_mem _ ht), by simp, (openV_short hL').2⟩
  have HVR : Hid (verR root (nibs key.data.toList) ts = match rootL hashOf ts root with
    | none => none
    | some (L, us) => goL hashOf (nibs key.data.toList) us L) := rfl
  clear htx hts hkl hnl
  generalize nibs key.data.toList = P at *
  generalize verR root P ts = VR at *
  generalize rootL hashOf ts root = RL at *
  go_enter Tryd.func5, Tryd.ntmps5
  go_wp2_with fail
  go_loopw [10] (fun iv wr => ∃ (i : Nat) (lv : Value), i ≤ ts.length ∧ iv = .int .i64 (i : Int) ∧ Hid (SB wr w.heap.size lv (ts.take i)) ∧ Hid (Below w.heap.size w wr)) (fun iv _ => ts.length - (intOf iv).toNat)
  case atStart => exact ⟨0, _, by omega, rfl, SB.start w, below_alloc _ _⟩
  case round =>
    obtain ⟨i, lv, hil, rfl, HS, HB⟩ := hrel
    obtain ⟨lo, lc, rfl⟩ := HS.out.shape
    have hln : (ts.take i).length = i := by rw [List.length_take]; omega
    by_cases hlt : i < ts.length
    · have j0 : (0 : Int) ≤ (i : Int) := by omega
      have j1 : (i : Int) < (ts.length : Int) := by omega
      obtain ⟨g, o, rfl, hc⟩ := HX.out i hlt
      have c0 : wr.cell? ⟨g, o + i, none⟩ = some (.string (ts.getD i eB)) := (HB.out.cell (p := ⟨g, o + i, none⟩) (World.block_lt_of_cell? w _ hc)).trans hc
      have HTk := hide (take_one ts i hlt)
      have HLn := hide hln
      rw [hln] at HS
      have c1 : wr.cell? ⟨w.heap.size, 0, none⟩ = some (.slice lo i lc) := cell_of_row _ _ 0 _ _ (0, 0) HS.out.blk
      have HOW : Hid (wr.ownsRow (w.heap.size + 1) 36 2 (.slice lo i lc) i (ecells (ts.take i))) := by
        have := HS.out.own
        rw [HLn.out] at this
        exact this
      have c2 : ∀ o, (wr.alloc o).cell? ⟨w.heap.size, 0, none⟩ = some (.slice lo i lc) := fun o => ((below_alloc wr o).cell (p := ⟨w.heap.size, 0, none⟩) HS.out.lt).trans c1
      have c3 : ∀ q, (wr.alloc q).cell? ⟨g, o + i, none⟩ = some (.string (ts.getD i eB)) := fun q => ((below_alloc wr q).cell (p := ⟨g, o + i, none⟩) (World.block_lt_of_cell? wr _ c0)).trans c0
      clear hc hln
      generalize ts.getD i eB = t at *
      go_wp2_with fail
      go_region_law ((refine step_append_lies _ (by rfl) _ _ _ (by rfl) (w.heap.size + 1) 36 i0 _ 2 32 Tryd.underlying32 hi hz0 hz1 hz2 rfl (by omega) (.slice lo i lc) i _ (by rfl) ((HOW.out.alloc _).drew) ⟨wr.heap.size, 0, none⟩ 1 1 (ecell t) (by rfl) (by rfl) (ecell_news wr t) (by simp [ecell, Value.oneCell']) (by omega) (by unfold maxLen; omega) (by omega) (by have := HB.out.size; simp; omega) (wr.heap.size + 1) (by simp) ?_; intro gg cap2 w3 hown3 hgrow hat3 hlt3; (have HPu := hide (SB.push (t := t) HS.out HLn.out rfl hown3 hgrow (by simpa using hat3))); (have p1 := HPu.out.1); (have p2 := HPu.out.2.1); clear hown3 hgrow hat3 hlt3))
      all_goals
        go_wp2
        go_roundw
        case rel =>
          have HQ : Hid (SB (w3.setCell ⟨w.heap.size, 0, none⟩ (.slice (some ⟨gg, 0, none⟩) (i + 1) cap2)) w.heap.size (.slice (some ⟨gg, 0, none⟩) (i + 1) cap2) (ts.take (i + 1))) := by
            show SB _ _ _ _
            rw [HTk.out]
            exact HPu.out.2.2.1
          exact ⟨i + 1, _, by omega, by go_num, HQ, HB.out.trans HPu.out.2.2.2⟩
        case measure => simp [intOf]; omega
    · obtain rfl : i = ts.length := by omega
      have HSh : Hid (Sh wr w.heap.size ts) := by
        have := HS.out.sh
        rw [List.take_length] at this
        exact this
      clear HS hln
      go_wp2_with fail
      refine (HH.out wr).mono ?_
      rintro e w1 ⟨pv, rfl, hpv, hb1⟩
      obtain ⟨pa, pc, rfl, hps⟩ := PSl.of_own hpv
      have HPS := hide hps
      have HSh1 : Hid (Sh w1 w.heap.size ts) := HSh.out.keep hb1
      have HB1 : Hid (Below w.heap.size w w1) := HB.out.trans (hb1.mono HB.out.size)
      have HR1 := hide (HRo.out w1 HSh1.out)
      clear hpv hps hb1
      go_wp2_with fail
      refine HR1.out.mono ?_
      rintro e w2 ⟨hg2, hpp⟩
      have HB2 : Hid (Below w.heap.size w w2) := HB1.out.grown hg2 HB1.out.size (fun k e => by injection e with e; omega)
      have HK2 := hide (HSh1.out.kpi hg2)
      clear hg2
      cases RL with
      | none =>
        obtain ⟨er, her, rfl⟩ := hpp
        have e1 : (er == 0) = false := by simpa using her
        have e2 : (er != 0) = true := by simpa using her
        have HA : Hid (ansR P VR = (eB, false, 13)) := ansR_none HVR.out
        clear her
        go_wp2
        refine bodyPost_ret (v := .tuple #[.string ⟨#[]⟩, .bool false, .int .i64 13]) (by simp [results, Tryd.results5, go_sem]) rfl ⟨by rw [HA.out]; rfl, HB2.out⟩
      | some r =>
        obtain ⟨L, us⟩ := r
        obtain ⟨v, rfl, hr2, hs2, hsh2, hl2⟩ := hpp
        obtain ⟨h1, h2, h3⟩ := HRl.out L us rfl
        obtain ⟨mo, mc, rfl⟩ := hr2.shape
        have HPS2 : Hid (PSl w2 pa pc P) := HPS.out.keep HK2.out
        have HA2 := hide (along_any w.heap.size _ L pa pc P us w2 hr2 hsh2 hs2 HPS2.out (by have := HPl.out; omega) h1 (by omega))
        have HS2 := hide hs2
        have HVR2 : Hid (VR = goL hashOf P us L) := HVR.out
        unfold ptr at HA2
        clear hr2 hs2 hsh2 hl2 h1 h2 h3
        generalize goL hashOf P us L = GL at *
        go_wp2_with fail
        refine HA2.out.mono ?_
        rintro e w3 ⟨hg3, hpp⟩
        have HB3 : Hid (Below w.heap.size w w3) := HB2.out.grown hg3 HB2.out.size (fun k e => by injection e with e; omega)
        have HK3 := hide (HS2.out.kpi hg3)
        clear hg3
        cases GL with
        | none =>
          obtain ⟨er, her, rfl⟩ := hpp
          have e2 : (er != 0) = true := by simpa using her
          have HA : Hid (ansR P VR = (eB, false, 13)) := ansR_none HVR2.out
          clear her
          go_wp2
          refine bodyPost_ret (v := .tuple #[.string ⟨#[]⟩, .bool false, .int .i64 13]) (by simp [results, Tryd.results5, go_sem]) rfl ⟨by rw [HA.out]; rfl, HB3.out⟩
        | some r =>
          obtain ⟨L3, vs⟩ := r
          obtain ⟨v3, rfl, hr3, hs3, hsh3, hl3⟩ := hpp
          obtain ⟨ao3, c3, rfl⟩ := hr3.shape
          obtain ⟨so, sc, hb3, _, _⟩ := hs3
          have x0 : w3.cell? ⟨w.heap.size, 0, none⟩ = some (.slice so vs.length sc) := cell_of_row _ _ 0 _ _ (0, 0) hb3
          cases vs with
          | cons t vs =>
            have HA : Hid (ansR P VR = (eB, false, 13)) := ansR_more HVR2.out
            have e3 : (0 : Int) < ((t :: vs).length : Int) := by rw [List.length_cons]; omega
            clear hr3 hsh3 hl3 hb3
            generalize (t :: vs).length = n at *
            go_wp2
            refine bodyPost_ret (v := .tuple #[.string ⟨#[]⟩, .bool false, .int .i64 13]) (by simp [results, Tryd.results5, go_sem]) rfl ⟨by rw [HA.out]; rfl, HB3.out⟩
          | nil =>
            have HAt := hide (at_any 0 _ L3 pa pc P w3 hr3 hsh3 hl3 (HPS2.out.keep HK3.out) (by have := HPl.out; omega))
            have HR3 := hide hr3
            simp only [List.length_nil] at x0
            by_cases hany : L3.any (atF P) = true
            · have hlt : L3.findIdx (atF P) < L3.length := List.findIdx_lt_length_of_exists (List.any_eq_true.1 hany)
              have HA : Hid (ansR P VR = ((L3.getD (L3.findIdx (atF P)) th0).value, true, 0)) := by show _ = _; rw [HVR2.out]; simp only [ansR]; rw [if_pos hany]
              have HI : Hid (atR L3 P = (L3.findIdx (atF P) : Int)) := by show _ = _; unfold atR; rw [if_pos hany]
              rw [HI.out] at HAt
              obtain ⟨g, cap', qa, qc, hv, _, _, z1, _, _⟩ := HR3.out.cellAt _ hlt
              obtain ⟨rfl, rfl⟩ : ao3 = some ⟨g, 0, none⟩ ∧ c3 = cap' := by simpa using hv
              have HZ : Hid (∀ W, Below w3.heap.size w3 W → W.cell? ⟨g, L3.findIdx (atF P) * 4 + 1, none⟩ = some (.string (L3.getD (L3.findIdx (atF P)) th0).value)) := fun W hW => (hW.cell (p := ⟨g, L3.findIdx (atF P) * 4 + 1, none⟩) (World.block_lt_of_cell? w3 _ z1)).trans z1
              clear hr3 hsh3 hl3 hb3 hv z1 hany HI
              generalize (L3.getD (L3.findIdx (atF P)) th0).value = av at *
              generalize L3.findIdx (atF P) = k at *
              have q0 : (0 : Int) ≤ (k : Int) := by omega
              have q1 : (k : Int) < (L3.length : Int) := by omega
              go_wp2_with fail
              refine HAt.out.mono ?_
              rintro e w4 ⟨rfl, hb4⟩
              have z1 := HZ.out w4 hb4
              have HB4 : Hid (Below w.heap.size w w4) := HB3.out.trans (hb4.mono HB3.out.size)
              clear hb4
              go_wp2
              refine bodyPost_ret (v := .tuple #[.string av, .bool true, .int .i64 0]) (by simp [results, Tryd.results5, go_sem]) rfl ⟨by rw [HA.out]; rfl, HB4.out⟩
            · have HA : Hid (ansR P VR = (eB, false, 0)) := by show _ = _; rw [HVR2.out]; simp only [ansR]; rw [if_neg hany]
              have HI : Hid (atR L3 P = -1) := by show _ = _; unfold atR; rw [if_neg hany]
              rw [HI.out] at HAt
              clear hr3 hsh3 hl3 hb3 hany HI
              go_wp2_with fail
              refine HAt.out.mono ?_
              rintro e w4 ⟨rfl, hb4⟩
              have HB4 : Hid (Below w.heap.size w w4) := HB3.out.trans (hb4.mono HB3.out.size)
              clear hb4
              go_wp2
              refine bodyPost_ret (v := .tuple #[.string ⟨#[]⟩, .bool false, .int .i64 0]) (by simp [results, Tryd.results5, go_sem]) rfl ⟨by rw [HA.out]; rfl, HB4.out⟩
/-- what the reference's Verify answers -/
theorem rVerify_any (root key : ByteArray) (ao : Option Addr) (cap : Nat) (ts : List ByteArray) (w : World) (htx : Txts w ao ts) (hts : ∀ t ∈ ts, t.size ≤ 140737488351232) (hl : ts.length ≤ 1100000) :
    Calls Tryd.prog 5 #[.string root, .string key, .slice ao ts.length cap] w fun e w' => e = ansV (verV hashOf root0 root key (nibs key.data.toList) ts) ∧ Below w.heap.size w w' := by
  by_cases hk : 64 < key.size
  · rw [show verV hashOf root0 root key (nibs key.data.toList) ts = (eB, false, 8) from by unfold verV; rw [if_pos hk]]
    exact rVerify_key root key _ w hk
  · rw [ansR_verV root key ts (by omega)]
    exact rVerify_go root key ao cap ts w htx hts hl (by omega)
end Go.Proofs.YtkegignigkhleaaDoor
