/-
  OUR OWN: RfD RfE RfF RfG RfH.
-/
import Derived.Test.YthdjmldddjljfaaGreatDoorG36
import Derived.Test.YthdjmldddjljfaaGreatDoorG28
namespace Go.Proofs.YthdjmldddjljfaaGreatDoor.V
open Go.RowKit
attribute [local go_sem ↓] Go.wp_at_zero Go.wp_at_succ

/-- how many numbers two paths begin with alike -/
def cmI : List Int → List Int → Nat
  | a :: p, b :: q => if a = b then cmI p q + 1 else 0
  | _, _ => 0
theorem cmI_ge : ∀ (k : Nat) (p q : List Int), k ≤ p.length → k ≤ q.length → (∀ j, j < k → p.getD j 0 = q.getD j 0) → k ≤ cmI p q
  | 0, _, _, _, _, _ => Nat.zero_le _
  | k + 1, [], _, h, _, _ => by simp at h
  | k + 1, _ :: _, [], _, h, _ => by simp at h
  | k + 1, a :: p, b :: q, h1, h2, h => by
    have e : a = b := by have := h 0 (by omega); simpa using this
    have ih := cmI_ge k p q (by simpa using h1) (by simpa using h2) (fun j hj => by have := h (j + 1) (by omega); simpa using this)
    simp only [cmI, e, if_true]
    omega
theorem cmI_len : ∀ (p q : List Int), cmI p q ≤ p.length ∧ cmI p q ≤ q.length
  | [], _ => ⟨Nat.zero_le _, Nat.zero_le _⟩
  | _ :: _, [] => ⟨Nat.zero_le _, Nat.zero_le _⟩
  | a :: p, b :: q => by
    obtain ⟨h1, h2⟩ := cmI_len p q
    simp only [cmI, List.length_cons]
    split
    · omega
    · omega
theorem cmI_ne : ∀ (k : Nat) (p q : List Int), k < p.length → k < q.length → p.getD k 0 ≠ q.getD k 0 → cmI p q ≤ k
  | 0, [], _, h, _, _ => by simp at h
  | 0, _ :: _, [], _, h, _ => by simp at h
  | 0, a :: p, b :: q, _, _, h => by
    have e : a ≠ b := by simpa using h
    simp [cmI, e]
  | k + 1, [], _, h, _, _ => by simp at h
  | k + 1, _ :: _, [], _, h, _ => by simp at h
  | k + 1, a :: p, b :: q, h1, h2, h => by
    have ih := cmI_ne k p q (by simpa using h1) (by simpa using h2) (by simpa using h)
    simp only [cmI]
    split
    · omega
    · omega
/-- how many numbers the paths of things begin with alike -/
def shTh : List Th → Nat
  | [] => 0
  | x :: r => r.foldl (fun n y => min n (cmI y.path x.path)) x.path.length
theorem shTh_take {L : List Th} {i : Nat} (h0 : 0 < i) (hi : i < L.length) : shTh (L.take (i + 1)) = min (shTh (L.take i)) (cmI (L.getD i th0).path (L.getD 0 th0).path) := by
  cases L with
  | nil => simp at hi
  | cons x r =>
    obtain ⟨k, rfl⟩ : ∃ k, i = k + 1 := ⟨i - 1, by omega⟩
    have hk : k < r.length := by simpa using hi
    have e : r.take (k + 1) = r.take k ++ [r[k]] := List.take_succ_eq_append_getElem hk
    simp only [List.take_succ_cons, shTh]
    rw [e, List.foldl_append]
    simp [hk]
theorem shTh_le {L : List Th} : shTh L ≤ (L.getD 0 th0).path.length := by
  cases L with
  | nil => simp [shTh]
  | cons x r =>
    simp only [shTh, List.getD_cons_zero]
    have : ∀ (r : List Th) (n : Nat), r.foldl (fun n y => min n (cmI y.path x.path)) n ≤ n := by
      intro r
      induction r with
      | nil => intro n; exact Nat.le_refl _
      | cons y r ih => intro n; exact Nat.le_trans (ih _) (Nat.min_le_left _ _)
    exact this _ _
theorem take_getD0 {L : List Th} {i : Nat} (h : 0 < i) : (L.take i).getD 0 th0 = L.getD 0 th0 := by
  cases L with
  | nil => simp
  | cons x r => cases i with
    | zero => omega
    | succ i => simp
set_option maxHeartbeats 4000000 in
set_option maxRecDepth 20000 in
theorem shared_any (base : Nat) (lv : Value) (L : List Th) (w : World) (hr : ThRow base w lv L) (hs : Short L) (h0 : 0 < L.length) (hL : L.length ≤ 1000000000) :
    Calls Tryz.prog 90 #[lv] w fun e w' => e = .returned (.int .i64 (shTh L : Int)) ∧ Below w.heap.size w w' := by
  obtain ⟨g, cap, za, zc, rfl, hz, z0, _, _, _⟩ := hr.cellAt 0 h0
  rw [Nat.zero_mul] at z0
  have HR := hide hr
  have HS := hide hs
  have HZ := hide hz
  have HZ0 : Hid (∀ W, Below w.heap.size w W → W.cell? ⟨g, 0, none⟩ = some (.slice za (L.getD 0 th0).path.length zc)) := fun W hW => (hW.cell (p := ⟨g, 0, none⟩) (World.block_lt_of_cell? w _ z0)).trans z0
  have HT1 : Hid (shTh (L.take 1) = (L.getD 0 th0).path.length) := by
    show _ = _
    cases L with
    | nil => simp at h0
    | cons x r => simp [shTh]
  have HTe : Hid (∀ i, 0 < i → i < L.length → shTh (L.take (i + 1)) = min (shTh (L.take i)) (cmI (L.getD i th0).path (L.getD 0 th0).path)) := fun i h1 h2 => shTh_take h1 h2
  have HTl : Hid (∀ i, 0 < i → shTh (L.take i) ≤ (L.getD 0 th0).path.length) := fun i h1 => by have := shTh_le (L := L.take i); rwa [take_getD0 h1] at this
  have HSz : Hid ((L.getD 0 th0).path.length ≤ 128) := HS.out.at 0
  have HTa : Hid (L.take L.length = L) := List.take_length
  generalize L.getD 0 th0 = y at *
  clear hr hs hz
  have i0 : (0 : Int) < (L.length : Int) := by omega
  go_enter Tryz.func90, Tryz.ntmps90
  go_wp2_with fail
  go_loopw [3, 4] (fun nv iv wr => ∃ i n : Nat, 0 < i ∧ i ≤ L.length ∧ iv = .int .i64 (i : Int) ∧ nv = .int .i64 (n : Int) ∧ shTh (L.take i) = n ∧ Below w.heap.size w wr) (fun _ iv _ => L.length - (intOf iv).toNat)
  case atStart => exact ⟨1, _, by omega, by omega, rfl, rfl, HT1.out, Below.refl _ _⟩
  case round =>
    obtain ⟨i, n, hi0, hi, rfl, rfl, hsh, hbw⟩ := hrel
    have HB := hide hbw
    have HSh := hide hsh
    have HNl : Hid (n ≤ y.path.length) := by show _ ≤ _; rw [← hsh]; exact HTl.out i hi0
    clear hbw hsh
    by_cases hil : i < L.length
    · have j0 : (0 : Int) ≤ (i : Int) := by omega
      have j1 : (i : Int) < (L.length : Int) := by omega
      obtain ⟨g', cap', qa, qc, hv, hq, x0, _, _, _⟩ := (HR.out.keep HB.out).cellAt i hil
      obtain ⟨rfl, rfl⟩ : g = g' ∧ cap = cap' := by simpa using hv
      have HX0 : Hid (∀ W, Below wr.heap.size wr W → W.cell? ⟨g, i * 4, none⟩ = some (.slice qa (L.getD i th0).path.length qc)) := fun W hW => (hW.cell (p := ⟨g, i * 4, none⟩) (World.block_lt_of_cell? wr _ x0)).trans x0
      have HQ := hide hq
      have HTi := hide (HTe.out i hi0 hil)
      have HXs : Hid ((L.getD i th0).path.length ≤ 128) := HS.out.at i
      generalize L.getD i th0 = x at *
      clear x0 hq hv
      go_wp2_with fail
      go_loopw [5] (fun kv wr' => ∃ k : Nat, k ≤ n ∧ k ≤ x.path.length ∧ kv = .int .i64 (k : Int) ∧ Below wr.heap.size wr wr' ∧ ∀ j, j < k → x.path.getD j 0 = y.path.getD j 0) (fun kv _ => n - (intOf kv).toNat)
      case atStart => exact ⟨0, Nat.zero_le _, Nat.zero_le _, rfl, Below.refl _ _, fun j hj => by omega⟩
      case round =>
        obtain ⟨k, hk, hkx, rfl, hbw, hall⟩ := hrel
        have HB2 := hide hbw
        have HB3 : Hid (Below w.heap.size w wr) := HB.out.trans (hbw.mono HB.out.size)
        have HA := hide hall
        have xi := HX0.out _ hbw
        have yi := HZ0.out _ HB3.out
        have k0 : (0 : Int) ≤ (k : Int) := by omega
        have kb : k ≤ 128 := by have := HXs.out; omega
        clear hbw hall
        by_cases h1 : k < n
        · have d1 : decide ((k : Int) < (n : Int)) = true := by simp; omega
          by_cases h2 : k < x.path.length
          · have d2 : decide ((k : Int) < (x.path.length : Int)) = true := by simp; omega
            have hky : k < y.path.length := by have := HNl.out; omega
            have m1 : (k : Int) < (x.path.length : Int) := by omega
            have m2 : (k : Int) < (y.path.length : Int) := by omega
            obtain ⟨g1, o1, rfl, hc1⟩ := (HQ.out.keep (KpI.of_below HB2.out)).cellAt (by omega)
            obtain ⟨g2, o2, rfl, hc2⟩ := (HZ.out.keep (KpI.of_below HB3.out)).cellAt (by omega)
            have c1 := hc1 k h2
            have c2 := hc2 k hky
            clear hc1 hc2
            have HE : Hid ((x.path.getD k 0 = y.path.getD k 0 → ∀ j, j < k + 1 → x.path.getD j 0 = y.path.getD j 0) ∧ (x.path.getD k 0 ≠ y.path.getD k 0 → shTh (L.take (i + 1)) = k)) := ⟨fun h j hj => by
              by_cases e : j = k
              · rw [e]; exact h
              · exact HA.out j (by omega), fun h => by
              have a1 := cmI_ge k _ _ (by omega) (by omega) HA.out
              have a2 := cmI_ne k _ _ h2 hky h
              rw [HTi.out, HSh.out]; omega⟩
            generalize x.path.getD k 0 = a at *
            generalize y.path.getD k 0 = b at *
            by_cases hab : a = b
            · have e1 : (a == b) = true := by simpa using hab
              have HA2 := hide (HE.out.1 hab)
              clear hab
              go_wp2_with fail
              go_quiet (fail)
              go_wp2
              go_roundw
              case rel => exact ⟨k + 1, by omega, by omega, by go_num, below_drewN HB2.out _, HA2.out⟩
              case measure => simp [intOf]; omega
            · have e1 : (a == b) = false := by simpa using hab
              have HF := hide (HE.out.2 hab)
              clear hab
              go_wp2_with fail
              go_quiet (fail)
              go_wp2
              go_roundw
              case rel => exact ⟨i + 1, k, by omega, by omega, by go_num, rfl, HF.out, below_drewN HB3.out _⟩
              case measure => simp [intOf]; omega
          · have d2 : decide ((k : Int) < (x.path.length : Int)) = false := by simp; omega
            have HF : Hid (shTh (L.take (i + 1)) = k) := by
              show _ = _
              have a1 := cmI_ge k _ _ (by omega) (by have := HNl.out; omega) HA.out
              have a2 := (cmI_len x.path y.path).1
              rw [HTi.out, HSh.out]; omega
            go_wp2_with fail
            go_quiet (fail)
            go_wp2
            go_roundw
            case rel => exact ⟨i + 1, k, by omega, by omega, by go_num, rfl, HF.out, below_drewN HB3.out _⟩
            case measure => simp [intOf]; omega
        · have d1 : decide ((k : Int) < (n : Int)) = false := by simp; omega
          have HF : Hid (shTh (L.take (i + 1)) = k) := by
            show _ = _
            have a1 := cmI_ge k _ _ (by omega) (by have := HNl.out; omega) HA.out
            rw [HTi.out, HSh.out]; omega
          go_wp2_with fail
          go_quiet (fail)
          go_wp2
          go_roundw
          case rel => exact ⟨i + 1, k, by omega, by omega, by go_num, rfl, HF.out, below_drewN HB3.out _⟩
          case measure => simp [intOf]; omega
    · obtain rfl : i = L.length := by omega
      rw [HTa.out] at HSh
      go_wp2
      go_ret
      exact ⟨by rw [HSh.out]; rfl, HB.out⟩
end Go.Proofs.YthdjmldddjljfaaGreatDoor.V
namespace Go.Proofs.YthdjmldddjljfaaGreatDoor.V
open Go.RowKit
attribute [local go_sem ↓] Go.wp_at_zero Go.wp_at_succ

/-- three cells hold the item whose code a text is; its rows lie where ok says -/
def ItO : Nat → World → (Nat → Prop) → List Value → ByteArray → Prop
  | 0, _, _, cs, t => ∃ b, txt t = some b ∧ cs = [.bool false, .string b, .slice none 0 0]
  | r + 1, w, ok, cs, t => (∃ b, txt t = some b ∧ cs = [.bool false, .string b, .slice none 0 0]) ∨
    ∃ (v : Value) (css : List (List Value)) (ts : List ByteArray), itemsOf t = some ts ∧ cs = [.bool true, .string ⟨#[]⟩, v] ∧ w.ownsRow 0 164 3 v css.length css.flatten ∧ (∀ g, v.ownBlock = some g → ok g) ∧ Al (ItO r w ok) css ts
theorem ItO.b {w : World} {ok : Nat → Prop} : ∀ {r : Nat} {cs : List Value} {t : ByteArray}, ItO r w ok cs t → ItB r w cs t
  | 0, _, _, h => h
  | r + 1, cs, t, h => by
    rcases h with h | ⟨v, css, ts, h1, h2, h3, _, h4⟩
    · exact .inl h
    · exact .inr ⟨v, css, ts, h1, h2, h3, h4.mono (fun _ _ h => ItO.b h)⟩
theorem ItO.keep {w w' : World} {ok ok' : Nat → Prop} (hk : ∀ k, ok k → k < w.heap.size → w'.heap[k]? = w.heap[k]? ∧ ok' k) : ∀ {r : Nat} {cs : List Value} {t : ByteArray}, ItO r w ok cs t → ItO r w' ok' cs t
  | 0, _, _, h => h
  | r + 1, cs, t, h => by
    rcases h with h | ⟨v, css, ts, h1, h2, h3, ho, h4⟩
    · exact .inl h
    · exact .inr ⟨v, css, ts, h1, h2, own_far h3 (fun g hg hl => (hk g (ho g hg) hl).1), fun g hg => (hk g (ho g hg) (own_blk h3 hg)).2, h4.mono (fun _ _ h => ItO.keep hk h)⟩
theorem itO_of {w : World} {ok : Nat → Prop} : ∀ {r : Nat} {cs : List Value} {q : List Prt} {t : ByteArray}, ItIs r w ok cs q → RdB r t q → ItO r w ok cs t
  | 0, cs, q, t, ⟨b, h1, h2⟩, ⟨b', h3, h4⟩ => by
    rw [h2] at h4
    simp only [List.cons.injEq, Prod.mk.injEq, and_true, true_and] at h4
    subst h4
    exact ⟨b, h3, h1⟩
  | r + 1, cs, q, t, h, h' => by
    rcases h with ⟨b, h1, h2⟩ | ⟨v, css, pss, h1, h2, h3, h4, h5, h6⟩
    · rcases h' with ⟨b', h3, h4⟩ | ⟨ts, qs, _, _, h4⟩
      · rw [h2] at h4
        simp only [List.cons.injEq, Prod.mk.injEq, and_true, true_and] at h4
        subst h4
        exact .inl ⟨b, h3, h1⟩
      · rw [h2] at h4
        simp only [List.cons.injEq, Prod.mk.injEq] at h4
        exact absurd h4.1.1 (by decide)
    · rcases h' with ⟨b', _, h7⟩ | ⟨ts, qs, h7, h8, h9⟩
      · rw [h6] at h7
        simp only [List.cons.injEq, Prod.mk.injEq] at h7
        exact absurd h7.1.1 (by decide)
      · rw [h6] at h9
        simp only [List.cons.injEq, Prod.mk.injEq, true_and] at h9
        have hl := h8.len
        have hfp : ∀ p ∈ pss, FullP p := fun p hp => by
          obtain ⟨i, hi, rfl⟩ := List.getElem_of_mem hp
          have := h5 i (by omega)
          rw [List.getD_eq_getElem?_getD (l := pss), List.getElem?_eq_getElem hi] at this
          exact ItIs.full this
        have hfq : ∀ q ∈ qs, FullP q := fun q hq => by obtain ⟨t, _, ht⟩ := al_mem h8 hq; exact RdB.full ht
        have hpq : pss = qs := flat_uniq (by omega) hfp hfq h9.2
        subst hpq
        refine .inr ⟨v, css, ts, h7, h1, h2, h3, al_of (by omega) (fun i hc ht => ?_)⟩
        have k1 := h5 i hc
        rw [List.getD_eq_getElem?_getD, List.getElem?_eq_getElem hc, List.getD_eq_getElem?_getD, List.getElem?_eq_getElem (by omega)] at k1
        exact itO_of k1 (h8.at i ht (by omega))
theorem ItO.text (r : Nat) (w : World) (ok : Nat → Prop) (b : ByteArray) (h : (textC b).size ≤ 6000) : ItO r w ok [.bool false, .string b, .slice none 0 0] (textC b) := by
  cases r with
  | zero => exact ⟨b, txt_of h, rfl⟩
  | succ r => exact .inl ⟨b, txt_of h, rfl⟩
theorem box3 {w w1 : World} {a b c : Value} {T : TypeId} (hb : Below (w.alloc (.cells #[a, b, c] T)).heap.size (w.alloc (.cells #[a, b, c] T)) w1) : (∀ o, (w1.alloc o).heap[w.heap.size]? = some (.cells #[a, b, c] T (0, 0))) ∧ w1.heap[w.heap.size]? = some (.cells #[a, b, c] T (0, 0)) ∧ Below w.heap.size w w1 ∧ ¬ w1.heap.size = w.heap.size := by
  have h1 : w1.heap[w.heap.size]? = some (.cells #[a, b, c] T (0, 0)) := (hb.block w.heap.size (by simp)).trans (heap_alloc_new w _)
  exact ⟨fun o => (Below.heap_alloc _ _ _ (Array.getElem?_eq_some_iff.1 h1).1).trans h1, h1, (below_alloc w _).trans (hb.mono (by simp)), by have := (Array.getElem?_eq_some_iff.1 h1).1; omega⟩
set_option maxHeartbeats 2000000 in
set_option maxRecDepth 20000 in
/-- Read of what can be read -/
theorem readO_any (s : ByteArray) (w : World) (h : s.size ≤ 6000) (hc : Can 8 s) :
    Calls Tryz.prog 109 #[.string s] w fun e w' => ∃ c0 c1 c2, e = .returned (.tuple #[.agg #[c0, c1, c2], .int .i64 0]) ∧ ItO 8 w' (fun k => w.heap.size < k) [c0, c1, c2] s ∧ Below w.heap.size w w' := by
  have hcut := cut_any s h 8 0 rfl 0 s.size (w.alloc (.cells #[.bool false, .string ⟨#[]⟩, .slice none 0 0] 164)) (Nat.zero_le _) (Nat.le_refl _)
  rw [show s.extract 0 s.size = s from by apply ByteArray.ext; rw [ByteArray.data_extract]; exact Array.extract_size] at hcut
  have c1 : (s.size : Int) ≤ 6000 := by omega
  obtain ⟨q, hq⟩ := hc
  have HQ := hide hq
  have hres := (rd_whole s 8 q).2 hq
  rw [hres] at hcut
  have HC := hide hcut
  clear hcut hres hq
  have hln : decide (((s.size - 0 : Nat) : Int) < (s.size : Int)) = false := by simp
  go_enter Tryz.func109, Tryz.ntmps109
  go_wp2_with fail
  refine HC.out.mono ?_
  rintro e w1 ⟨c0, c1, c2, rfl, hit, hb⟩
  obtain ⟨l0, b0, ao0, lo0, lc0, hsh⟩ := hit.shape
  simp only [List.cons.injEq, and_true] at hsh
  obtain ⟨rfl, rfl, rfl⟩ := hsh
  obtain ⟨h6, _, hb1, hne⟩ := box3 hb
  have y0 : ∀ o, (w1.alloc o).cell? ⟨w.heap.size, 0, none⟩ = some (.bool false) := fun o => cell_of_row _ _ 0 _ _ (0, 0) (h6 o)
  have y1 : ∀ o, (w1.alloc o).cell? ⟨w.heap.size, 1, none⟩ = some (.string ⟨#[]⟩) := fun o => cell_of_row _ _ 1 _ _ (0, 0) (h6 o)
  have y2 : ∀ o, (w1.alloc o).cell? ⟨w.heap.size, 2, none⟩ = some (.slice none 0 0) := fun o => cell_of_row _ _ 2 _ _ (0, 0) (h6 o)
  have yf : ∀ o j, (w1.alloc o).frozen? ⟨w.heap.size, j, none⟩ = false := fun o j => by unfold World.frozen?; simp [h6 o]
  have HB := hide hb1
  have HIT := hide hit
  clear h6 hb hit hb1
  go_wp2
  refine bodyPost_ret (v := .tuple #[.agg #[.bool l0, .string b0, .slice ao0 lo0 lc0], .int .i64 0]) (by simp [results, Tryz.results109, go_sem, y0, y1, y2]) rfl ⟨.bool l0, .string b0, .slice ao0 lo0 lc0, rfl, ?_, ?_⟩
  · refine itO_of (HIT.out.keep (fun k hk1 hk => ?_)) HQ.out
    have hkn : w.heap.size < k := by simp at hk1; omega
    have hkn' : k ≠ w.heap.size := by omega
    refine ⟨?_, hkn⟩
    rw [Below.heap_setCell _ _ _ _ hkn', Below.heap_setCell _ _ _ _ hkn', Below.heap_setCell _ _ _ _ hkn', Below.heap_alloc _ _ _ hk]
  · exact (((HB.out.alloc HB.out.size _).setCell (Nat.le_refl _) _).setCell (Nat.le_refl _) _).setCell (Nat.le_refl _) _
/-- what stands for a code in another one -/
def refC (c : ByteArray) : ByteArray := if c.size < 32 then c else textC (hashOf c)
set_option maxHeartbeats 2000000 in
set_option maxRecDepth 20000 in
theorem item_any (code : ByteArray) (w : World) (hc : code.size < 32 → Can 8 code) (h6 : code.size ≤ 6000) (hh : (textC (hashOf code)).size ≤ 6000) :
    Calls Tryz.prog 92 #[.string code] w fun e w' => ∃ l b ao lo lc, e = .returned (.agg #[.bool l, .string b, .slice ao lo lc]) ∧ ItO 8 w' (fun k => w.heap.size ≤ k) [.bool l, .string b, .slice ao lo lc] (refC code) ∧ Below w.heap.size w w' := by
  by_cases h32 : code.size < 32
  · have i1 : (code.size : Int) < 32 := by omega
    have HR : Hid (refC code = code) := if_pos h32
    have HRd := hide (fun W => readO_any code W h6 (hc h32))
    rw [HR.out]
    clear hc hh
    go_enter Tryz.func92, Tryz.ntmps92
    go_wp2_with fail
    refine (HRd.out _).mono ?_
    rintro e w1 ⟨c0, c1, c2, rfl, hit, hb⟩
    obtain ⟨l, b, ao, lo, lc, hsh⟩ := hit.b.shape
    simp only [List.cons.injEq, and_true] at hsh
    obtain ⟨rfl, rfl, rfl⟩ := hsh
    obtain ⟨h7, _, hb1, hne⟩ := box3 hb
    have y0 : ∀ o, (w1.alloc o).cell? ⟨w.heap.size, 0, none⟩ = some (.bool false) := fun o => cell_of_row _ _ 0 _ _ (0, 0) (h7 o)
    have y1 : ∀ o, (w1.alloc o).cell? ⟨w.heap.size, 1, none⟩ = some (.string ⟨#[]⟩) := fun o => cell_of_row _ _ 1 _ _ (0, 0) (h7 o)
    have y2 : ∀ o, (w1.alloc o).cell? ⟨w.heap.size, 2, none⟩ = some (.slice none 0 0) := fun o => cell_of_row _ _ 2 _ _ (0, 0) (h7 o)
    have yf : ∀ o j, (w1.alloc o).frozen? ⟨w.heap.size, j, none⟩ = false := fun o j => by unfold World.frozen?; simp [h7 o]
    have HB := hide hb1
    have HIT := hide hit
    clear h7 hb hit hb1
    go_wp2
    refine bodyPost_ret (v := .agg #[.bool l, .string b, .slice ao lo lc]) (by simp [results, Tryz.results92, go_sem, y0, y1, y2]) rfl ⟨l, b, ao, lo, lc, rfl, ?_, ?_⟩
    · refine HIT.out.keep (fun k hk1 hk => ?_)
      have hkn : w.heap.size < k := by simp at hk1; omega
      have hkn' : k ≠ w.heap.size := by omega
      refine ⟨?_, by omega⟩
      rw [Below.heap_setCell _ _ _ _ hkn', Below.heap_setCell _ _ _ _ hkn', Below.heap_setCell _ _ _ _ hkn', Below.heap_alloc _ _ _ hk]
    · exact (((HB.out.alloc HB.out.size _).setCell (Nat.le_refl _) _).setCell (Nat.le_refl _) _).setCell (Nat.le_refl _) _
  · have i1 : ¬ (code.size : Int) < 32 := by omega
    have HR : Hid (refC code = textC (hashOf code)) := if_neg h32
    have HH := hide (fun W => rHash_any code W (by omega))
    have HI := hide (fun W ok => ItO.text 8 W ok (hashOf code) hh)
    rw [HR.out]
    clear hc hh
    go_enter Tryz.func92, Tryz.ntmps92
    go_wp2_with fail
    refine (HH.out _).mono ?_
    rintro e w1 ⟨rfl, hb⟩
    obtain ⟨_, h7, hb1, hne⟩ := box3 hb
    have y0 : w1.cell? ⟨w.heap.size, 0, none⟩ = some (.bool false) := cell_of_row _ _ 0 _ _ (0, 0) h7
    have y1 : w1.cell? ⟨w.heap.size, 1, none⟩ = some (.string ⟨#[]⟩) := cell_of_row _ _ 1 _ _ (0, 0) h7
    have y2 : w1.cell? ⟨w.heap.size, 2, none⟩ = some (.slice none 0 0) := cell_of_row _ _ 2 _ _ (0, 0) h7
    have yf : ∀ j, w1.frozen? ⟨w.heap.size, j, none⟩ = false := fun j => by unfold World.frozen?; simp [h7]
    have HB := hide hb1
    clear h7 hb hb1
    go_wp2
    refine bodyPost_ret (v := .agg #[.bool false, .string (hashOf code), .slice none 0 0]) (by simp [results, Tryz.results92, go_sem, y0, y1, y2]) rfl ⟨false, hashOf code, none, 0, 0, rfl, HI.out _ _, ?_⟩
    exact ((HB.out.setCell (Nat.le_refl _) _).setCell (Nat.le_refl _) _).setCell (Nat.le_refl _) _
end Go.Proofs.YthdjmldddjljfaaGreatDoor.V
namespace Go.Proofs.YthdjmldddjljfaaGreatDoor.V
open Go.RowKit
attribute [local go_sem ↓] Go.wp_at_zero Go.wp_at_succ

/-- a node that is told -/
structure Md where
  path : List Int
  code : ByteArray
  whole : Bool
def MdAt (w : World) (cs : List Value) (x : Md) : Prop := ∃ ao cap, cs = [.slice ao x.path.length cap, .string x.code, .bool x.whole] ∧ PSl w ao cap x.path
theorem MdAt.keep {w w' : World} {cs : List Value} {x : Md} (h : MdAt w cs x) (hk : KpI w w') : MdAt w' cs x := by
  obtain ⟨ao, cap, h1, h2⟩ := h; exact ⟨ao, cap, h1, h2.keep hk⟩
/-- a row of them -/
structure MdRow (base : Nat) (w : World) (v : Value) (L : List Md) : Prop where
  held : ∃ css, w.ownsRow base 168 3 v L.length css.flatten ∧ Al (MdAt w) css L
theorem MdRow.keep {base : Nat} {w w' : World} {v : Value} {L : List Md} (h : MdRow base w v L) (hb : Below w.heap.size w w') : MdRow base w' v L := by
  obtain ⟨css, h1, h2⟩ := h
  exact ⟨css, own_far h1 (fun g _ hg => hb.block g hg), h2.mono (fun _ _ h => h.keep (KpI.of_below hb))⟩
theorem MdRow.base {base base' : Nat} {w : World} {v : Value} {L : List Md} (h : MdRow base w v L) (hb : base' ≤ base) : MdRow base' w v L := by
  obtain ⟨css, h1, h2⟩ := h; exact ⟨css, own_base h1 hb, h2⟩
theorem MdRow.nil (base : Nat) (w : World) : MdRow base w (.slice none 0 0) [] := ⟨[], World.ownsRow_nil _ _ _ _, .nil⟩
theorem MdRow.shape {base : Nat} {w : World} {v : Value} {L : List Md} (h : MdRow base w v L) : ∃ ao cap, v = .slice ao L.length cap := by
  obtain ⟨css, h1, _⟩ := h
  rcases h1.2 with ⟨rfl, h0⟩ | ⟨g, c, cur, rfl, _⟩
  · exact ⟨none, 0, by rw [h0]⟩
  · exact ⟨_, c, rfl⟩
theorem al_mades {w : World} {css : List (List Value)} {L : List Md} (h : Al (MdAt w) css L) : css.flatten.length = L.length * 3 ∧ ∀ u ∈ css.flatten, u.oneCell' = true := by
  induction h with
  | nil => exact ⟨rfl, by simp⟩
  | cons h _ ih =>
    obtain ⟨ao, cap, rfl, _⟩ := h
    refine ⟨by simp only [List.flatten_cons, List.length_append, List.length_cons, List.length_nil, ih.1]; omega, ?_⟩
    intro u hu
    rw [List.flatten_cons, List.mem_append] at hu
    rcases hu with hu | hu
    · simp only [List.mem_cons, List.not_mem_nil, or_false] at hu
      rcases hu with rfl | rfl | rfl <;> rfl
    · exact ih.2 u hu
theorem infoMd : (Tryz.prog.info? 168).map (fun i => (i.zero, i.size, i.bytes)) = some (some (.agg #[.slice none 0 0, .string ⟨#[]⟩, .bool false]), 3, 48) := by kernel_rfl
theorem wpList_append_md {ops : Array Oper} {rest : List Oper} {o : Oper} {a : Act} {Q : Exit → Act → World → Prop} {w : World} (hgd : o.guard = none) (s x : Operand)
    (ho : o.op = .call { callee := .builtin .append, args := #[s, x], argTypes := #[121, 121] })
    (base base2 : Nat) (v : Value) (L : List Md) (hs : a.eval s = v) (h1 : MdRow base w v L) (sv : Value) (M : List Md) (hx : a.eval x = sv) (h2 : MdRow base2 w sv M) (hl : L.length + M.length ≤ 1000000000000) (hb : base ≤ w.heap.size)
    (h : ∀ v' w', MdRow base w' v' (L ++ M) → w.grownBy w' v.ownBlock → (∀ k, v.ownBlock = some k → base ≤ k) → KpI w w' → wpList Tryz.prog ops Q rest (a.put o.dst v') w') : wpList Tryz.prog ops Q (o :: rest) a w := by
  obtain ⟨i0, hi, hz0, hz1, hz2⟩ := info_parts infoMd
  obtain ⟨css1, o1, a1⟩ := h1
  obtain ⟨css2, o2, a2⟩ := h2
  refine wpList_append_reads hgd s x _ ho base 168 i0 _ 3 48 Tryz.underlying121 hi hz0 hz1 hz2 rfl (by decide) v L.length _ hs o1 sv M.length _ hx (own_reads o2) (al_mades a2).1 (al_mades a2).2 (by unfold maxLen; omega) (by omega) hb ?_
  intro v' w' ho' hg
  have hk : KpI w w' := KpI.of_grown o1 (by decide) hg
  refine h v' w' ⟨css1 ++ css2, ?_, (a1.append a2).mono (fun _ _ h => h.keep hk)⟩ hg (own_ge o1 (Nat.le_refl _)) hk
  rw [List.length_append, List.flatten_append]
  exact ho'
theorem PSl.take {w : World} {ao : Option Addr} {cap : Nat} {p : List Int} (h : PSl w ao cap p) (i : Nat) : PSl w ao cap (p.take i) := ⟨h.nil, by have := h.cap; simp; omega, fun hn => by
  obtain ⟨g, o, cur, h1, h2, h3⟩ := h.at' (fun e => hn (by rw [e]; simp))
  refine ⟨g, o, cur, h1, h2, fun j hj => ?_⟩
  have hj' : j < p.length ∧ j < i := by simp at hj; omega
  rw [h3 j hj'.1]
  simp [List.getD_eq_getElem?_getD, hj'.2]⟩
theorem PSl.drop {w : World} {ao : Option Addr} {cap : Nat} {p : List Int} (h : PSl w ao cap p) (i : Nat) : PSl w (ao.map (fun x => x.add i)) (cap - i) (p.drop i) := ⟨fun hn => by
  have : ao = none := by cases ao with
    | none => rfl
    | some a => cases hn
  rw [h.nil this]; omega, by have := h.cap; simp; omega, fun hn => by
  obtain ⟨g, o, cur, h1, h2, h3⟩ := h.at' (fun e => hn (by rw [e]; simp))
  subst h1
  refine ⟨g, o + i, cur, by simp [addr_add], h2, fun j hj => ?_⟩
  have hj' : i + j < p.length := by simp at hj; omega
  rw [Nat.add_assoc, h3 (i + j) hj']
  simp [List.getD_eq_getElem?_getD, List.getElem?_drop]⟩
theorem PSl.none' {w : World} {ao : Option Addr} : PSl w ao 0 [] := ⟨fun _ => rfl, Nat.le_refl _, fun h => absurd rfl h⟩
theorem rPack_drop {w : World} {ao : Option Addr} {cap : Nat} {p : List Int} (h : PSl w ao cap p) (i : Nat) (leaf : Bool) (hp : isP (p.drop i) = true) : Calls Tryz.prog 91 #[.slice (ao.map (fun x => x.add i)) (p.length - i) (cap - i), .bool leaf] w fun e w' => e = .returned (.tuple #[.string (codeOf leaf (p.drop i)), .int .i64 0]) ∧ Below w.heap.size w w' := by
  have h2 := h.drop i
  have := rPack_good (ao.map (fun x => x.add i)) (cap - i) (p.drop i) leaf w h2.ints h2.nil hp
  rwa [List.length_drop] at this
theorem rPack_end {w : World} {ao : Option Addr} {p : List Int} {i : Nat} (hi : p.length = i) (leaf : Bool) (hp : isP (p.drop i) = true) : Calls Tryz.prog 91 #[.slice ao (p.length - i) 0, .bool leaf] w fun e w' => e = .returned (.tuple #[.string (codeOf leaf (p.drop i)), .int .i64 0]) ∧ Below w.heap.size w w' := by
  have e : p.drop i = [] := List.drop_eq_nil_of_le (by omega)
  have := rPack_good ao 0 (p.drop i) leaf w (.inl e) (fun _ => rfl) hp
  rwa [List.length_drop] at this
/-- the code of a list of items that lie in a new block -/
theorem code_new (g : Nat) (cells : List Value) (n : Nat) (css : List (List Value)) (ts : List ByteArray) (W : World) (ok : Nat → Prop) (hg : W.heap[g]? = some (.cells cells.toArray 164 (0, 0))) (hc : css.flatten = cells) (hn : css.length = n) (hm : n ≤ 1000) (hi : Al (ItO 8 W ok) css ts) (ht : totS ts ≤ 6000) :
    Calls Tryz.prog 93 #[.agg #[.bool true, .string ⟨#[]⟩, .slice (some ⟨g, 0, none⟩) n n]] W fun e w' => e = .returned (.string (listC ts)) ∧ Below W.heap.size W w' := by
  have hib : Al (ItB 8 W) css ts := hi.mono (fun _ _ h => h.b)
  have h3 : css.flatten.length = css.length * 3 := by
    clear hc hn hg hi ht
    induction hib with
    | nil => rfl
    | cons h _ ih =>
      have := h.len3
      rw [List.flatten_cons, List.length_append, ih, this, List.length_cons]; omega
  subst hn
  subst hc
  refine codeB_list 8 (codeB_any 8) W _ css ts ⟨h3, .inr ⟨g, css.length, _, rfl, Nat.zero_le _, hg, Nat.le_refl _, by unfold maxLen; omega, by simpa using h3, ?_⟩⟩ hib ht
  rw [← h3]
  exact List.take_length
theorem MdRow.one (base : Nat) (w : World) (ao : Option Addr) (cap : Nat) (p : List Int) (c : ByteArray) (b : Bool) (n : Nat) (hn : p.length = n) (hb : base ≤ w.heap.size) (h : PSl w ao cap p) : MdRow base (w.alloc (.cells #[.slice ao n cap, .string c, .bool b] 168)) (.slice (some ⟨w.heap.size, 0, none⟩) 1 1) [⟨p, c, b⟩] := by
  subst hn
  refine ⟨[[.slice ao p.length cap, .string c, .bool b]], ⟨rfl, .inr ⟨_, 1, _, rfl, hb, heap_alloc_new w _, Nat.le_refl _, by decide, rfl, rfl⟩⟩, .cons ⟨ao, cap, rfl, ?_⟩ .nil⟩
  exact h.keep (KpI.of_below (below_alloc _ _))
def leafMd (x : Th) (i : Nat) : List Md := [⟨x.path.take i, listC [textC (codeOf true (x.path.drop i)), textC x.value], decide (32 ≤ (listC [textC (codeOf true (x.path.drop i)), textC x.value]).size)⟩]
def NodePost (code : ByteArray) (M : List Md) (w : World) (e : Ending) (w' : World) : Prop := ∃ mv, e = .returned (.tuple #[.string code, mv]) ∧ MdRow w.heap.size w' mv M ∧ Below w.heap.size w w'
theorem totS_two (a b : ByteArray) (h : (listC [a, b]).size ≤ 6000) : totS [a, b] ≤ 6000 := by
  have h1 := headS_ge 192 (joinB [a, b])
  have h2 : (joinB [a, b]).size = totS [a, b] := joinB_size _
  unfold listC at h
  omega
set_option maxHeartbeats 8000000 in
set_option maxRecDepth 20000 in
theorem node_leaf (base : Nat) (lv : Value) (x : Th) (i : Nat) (w : World) (hr : ThRow base w lv [x]) (hx : x.path.length ≤ 128) (hh : x.hash = ⟨#[]⟩) (hi : i ≤ x.path.length) (hp : isP (x.path.drop i) = true) (hz : (listC [textC (codeOf true (x.path.drop i)), textC x.value]).size ≤ 6000) :
    Calls Tryz.prog 56 #[lv, .int .i64 (i : Int)] w (NodePost (listC [textC (codeOf true (x.path.drop i)), textC x.value]) (leafMd x i) w) := by
  have hs : Short [x] := fun y hy => by rw [List.mem_singleton] at hy; rw [hy]; exact hx
  have HSh := hide (shared_any base lv [x] w hr hs (by simp) (by simp))
  have hsh : shTh [x] = x.path.length := rfl
  rw [hsh] at HSh
  obtain ⟨g, cap, qa, qc, rfl, hq, x0, x1, x2, _⟩ := hr.cellAt 0 (by simp)
  simp only [List.getD_cons_zero, Nat.zero_mul, Nat.zero_add] at hq x0 x1 x2
  rw [hh] at x2
  have HC : Hid (∀ W, Below w.heap.size w W → W.cell? ⟨g, 0, none⟩ = some (.slice qa x.path.length qc) ∧ W.cell? ⟨g, 1, none⟩ = some (.string x.value) ∧ W.cell? ⟨g, 2, none⟩ = some (.string ⟨#[]⟩)) := fun W hW => ⟨(hW.cell (p := ⟨g, 0, none⟩) (World.block_lt_of_cell? w _ x0)).trans x0, (hW.cell (p := ⟨g, 1, none⟩) (World.block_lt_of_cell? w _ x1)).trans x1, (hW.cell (p := ⟨g, 2, none⟩) (World.block_lt_of_cell? w _ x2)).trans x2⟩
  have hqc := hq.cap
  have HQ := hide hq
  have i0 : (0 : Int) ≤ (i : Int) := by omega
  have i1 : (i : Int) ≤ (x.path.length : Int) := by omega
  have i2 : (x.path.length : Int) ≤ (qc : Int) := by omega
  have i3 : (i : Int) ≤ (qc : Int) := by omega
  have HTo := hide (totS_two _ _ hz)
  have HT1 : Hid ((textC (codeOf true (x.path.drop i))).size ≤ 6000 ∧ (textC x.value).size ≤ 6000) := by
    have h1 := HTo.out
    simp only [totS_eq, List.map_cons, List.map_nil, List.sum_cons, List.sum_nil] at h1
    show _ ∧ _; omega
  have HLm : Hid (leafMd x i = [⟨x.path.take i, listC [textC (codeOf true (x.path.drop i)), textC x.value], decide (32 ≤ (listC [textC (codeOf true (x.path.drop i)), textC x.value]).size)⟩]) := rfl
  unfold NodePost
  rw [HLm.out]
  have HPk : Hid (∀ W, Below w.heap.size w W → (qc = i → Calls Tryz.prog 91 #[.slice qa (x.path.length - i) 0, .bool true] W fun e w' => e = .returned (.tuple #[.string (codeOf true (x.path.drop i)), .int .i64 0]) ∧ Below W.heap.size W w') ∧ Calls Tryz.prog 91 #[.slice (qa.map (fun x => x.add i)) (x.path.length - i) (qc - i), .bool true] W fun e w' => e = .returned (.tuple #[.string (codeOf true (x.path.drop i)), .int .i64 0]) ∧ Below W.heap.size W w') := fun W hW => ⟨fun hqi => rPack_end (by omega) true hp, rPack_drop (HQ.out.keep (KpI.of_below hW)) i true hp⟩
  generalize codeOf true (x.path.drop i) = cd at *
  generalize hcode : listC [textC cd, textC x.value] = code at *
  have HCo := hide hcode
  clear hr hs hq x0 x1 x2 hcode
  have hcs : qc = i ∨ ¬ qc = i := by omega
  rcases hcs with hcs | hcs
  all_goals
    go_enter Tryz.func56, Tryz.ntmps56
    go_wp2_with fail
    refine HSh.out.mono ?_
    rintro e w1 ⟨rfl, hb1⟩
    have HB2 := hide (hb1.trans ((below_alloc w1 (.cells #[.bool false, .string ⟨#[]⟩, .slice none 0 0] 164)).mono hb1.size))
    have HZ1 : Hid (w.heap.size ≤ w1.heap.size) := hb1.size
    obtain ⟨y0, y1, y2⟩ := HC.out _ HB2.out
    clear hb1
    go_wp2_with fail
    first
      | refine ((HPk.out _ HB2.out).1 hcs).mono ?_
      | refine (HPk.out _ HB2.out).2.mono ?_
    rintro e w2 ⟨rfl, hb2⟩
    clear hcs
    obtain ⟨_, k1, k2, k3⟩ := box3 hb2
    have HB3 : Hid (Below w.heap.size w w2) := HB2.out.trans (hb2.mono HB2.out.size)
    have HK1 := hide k1
    have k4 : w1.heap.size < w2.heap.size := (Array.getElem?_eq_some_iff.1 k1).1
    have k5 := frozen_of_row _ _ 0 _ _ k1
    have k6 := frozen_of_row _ _ 1 _ _ k1
    have k7 := frozen_of_row _ _ 2 _ _ k1
    have k8 : w2.cell? ⟨w1.heap.size, 0, none⟩ = some (.bool false) := cell_of_row _ _ 0 _ _ (0, 0) k1
    have k9 : w2.cell? ⟨w1.heap.size, 1, none⟩ = some (.string ⟨#[]⟩) := cell_of_row _ _ 1 _ _ (0, 0) k1
    have k10 : w2.cell? ⟨w1.heap.size, 2, none⟩ = some (.slice none 0 0) := cell_of_row _ _ 2 _ _ (0, 0) k1
    obtain ⟨z0, z1, z2⟩ := HC.out _ HB3.out
    clear hb2 y0 y1 y2 k1 k2
    go_wp2_with fail
    have h3 : Below w.heap.size w (((w2.setCell ⟨w1.heap.size, 0, none⟩ (.bool true)).setCell ⟨w1.heap.size, 1, none⟩ (.string ⟨#[]⟩)).setCell ⟨w1.heap.size, 2, none⟩ (.slice (some ⟨w2.heap.size, 0, none⟩) 2 2)) := ((HB3.out.setCell (p := ⟨w1.heap.size, 0, none⟩) HZ1.out _).setCell (p := ⟨w1.heap.size, 1, none⟩) HZ1.out _).setCell (p := ⟨w1.heap.size, 2, none⟩) HZ1.out _
    have hz3 : (((w2.setCell ⟨w1.heap.size, 0, none⟩ (.bool true)).setCell ⟨w1.heap.size, 1, none⟩ (.string ⟨#[]⟩)).setCell ⟨w1.heap.size, 2, none⟩ (.slice (some ⟨w2.heap.size, 0, none⟩) 2 2)).heap.size = w2.heap.size := by simp [World.setCell]
    generalize (((w2.setCell ⟨w1.heap.size, 0, none⟩ (.bool true)).setCell ⟨w1.heap.size, 1, none⟩ (.string ⟨#[]⟩)).setCell ⟨w1.heap.size, 2, none⟩ (.slice (some ⟨w2.heap.size, 0, none⟩) 2 2)) = W3 at *
    have hn := heap_alloc_new W3 (.cells #[.bool false, .string cd, .slice none 0 0, .bool false, .string x.value, .slice none 0 0] 164)
    rw [hz3] at hn
    have HCn := code_new w2.heap.size [.bool false, .string cd, .slice none 0 0, .bool false, .string x.value, .slice none 0 0] 2 [[.bool false, .string cd, .slice none 0 0], [.bool false, .string x.value, .slice none 0 0]] [textC cd, textC x.value] _ (fun _ => True) hn rfl rfl (by decide) (.cons (ItO.text 8 _ _ _ HT1.out.1) (.cons (ItO.text 8 _ _ _ HT1.out.2) .nil)) HTo.out
    rw [HCo.out] at HCn
    refine HCn.mono ?_
    rintro e w5 ⟨rfl, hb5⟩
    have h4 := h3.trans ((below_alloc W3 (.cells #[.bool false, .string cd, .slice none 0 0, .bool false, .string x.value, .slice none 0 0] 164)).mono h3.size)
    have HB5 : Hid (Below w.heap.size w w5) := h4.trans (hb5.mono h4.size)
    clear HCn hn h3 h4 hb5 hz3
    obtain ⟨y0, y1, y2⟩ := HC.out _ HB5.out
    have HMd := hide (MdRow.one w.heap.size w5 qa qc (x.path.take i) code (decide (32 ≤ code.size)) i (by simp; omega) HB5.out.size ((HQ.out.keep (KpI.of_below HB5.out)).take i))
    have HDc : Hid (decide (32 ≤ code.size) = decide ((32 : Int) ≤ (code.size : Int))) := by show _ = _; rw [decide_eq_decide]; omega
    rw [HDc.out] at HMd
    clear k3 k4 k5 k6 k7 k8 k9 k10 z0 z1 z2
    go_wp2_with (at_builtin; go_must (refine wpList_append_md rfl _ _ rfl w.heap.size 0 _ _ rfl HMd.out _ [] rfl (MdRow.nil _ _) (by simp) (Nat.le_trans HB5.out.size (below_alloc _ _).size) ?_); intro v6 w6 hr6 hg6 hk6 hkp6; go_must (have HX6 := hide (And.intro hr6 (Below.grown (HB5.out.trans ((below_alloc _ _).mono HB5.out.size)) hg6 (Nat.le_trans HB5.out.size (below_alloc _ _).size) hk6))); clear hr6 hg6 hk6 hkp6)
    go_ret2
    refine ⟨v6, rfl, ?_, HX6.out.2⟩
    rw [HDc.out]
    exact HX6.out.1
end Go.Proofs.YthdjmldddjljfaaGreatDoor.V
namespace Go.Proofs.YthdjmldddjljfaaGreatDoor.V
open Go.RowKit
attribute [local go_sem ↓] Go.wp_at_zero Go.wp_at_succ

theorem MdRow.keepX {base : Nat} {w w' : World} {v : Value} {L : List Md} (h : MdRow base w v L) (hk : ∀ g, base ≤ g → g < w.heap.size → w'.heap[g]? = w.heap[g]?) (hi : KpI w w') : MdRow base w' v L := by
  obtain ⟨css, h1, h2⟩ := h
  exact ⟨css, own_far h1 (fun g hg hl => hk g (own_ge h1 (Nat.le_refl _) g hg) hl), h2.mono (fun _ _ h => h.keep hi)⟩
/-- what three stores into an item's box change -/
structure Set3 (R : Nat) (w w' : World) : Prop where
  far : ∀ k, k ≠ R → w'.heap[k]? = w.heap[k]?
  size : w'.heap.size = w.heap.size
  ints : KpI w w'
theorem set3 {w : World} {R : Nat} {a b c : Value} (h : w.heap[R]? = some (.cells #[a, b, c] 164 (0, 0))) (x y z : Value) : Set3 R w (((w.setCell ⟨R, 0, none⟩ x).setCell ⟨R, 1, none⟩ y).setCell ⟨R, 2, none⟩ z) := by
  have hf : ∀ k, k ≠ R → (((w.setCell ⟨R, 0, none⟩ x).setCell ⟨R, 1, none⟩ y).setCell ⟨R, 2, none⟩ z).heap[k]? = w.heap[k]? := fun k hk => by
    rw [Below.heap_setCell _ _ _ _ hk, Below.heap_setCell _ _ _ _ hk, Below.heap_setCell _ _ _ _ hk]
  refine ⟨hf, by simp [World.setCell], fun g cur hg => ?_⟩
  rw [hf g (fun e => ?_)]
  · exact hg
  · subst e
    rw [h] at hg
    simp only [Option.some.injEq, Obj.cells.injEq] at hg
    exact absurd hg.2.1 (by decide)
theorem below_set3 {B R : Nat} {a w : World} (h : Below B a w) (hR : B ≤ R) (x y z : Value) : Below B a (((w.setCell ⟨R, 0, none⟩ x).setCell ⟨R, 1, none⟩ y).setCell ⟨R, 2, none⟩ z) := ((h.setCell (p := ⟨R, 0, none⟩) hR x).setCell (p := ⟨R, 1, none⟩) hR y).setCell (p := ⟨R, 2, none⟩) hR z
theorem KpI.alloc (w : World) (o : Obj) : KpI w (w.alloc o) := KpI.of_below (below_alloc w o)
set_option maxHeartbeats 8000000 in
set_option maxRecDepth 20000 in
theorem node_ext (base : Nat) (lv : Value) (L : List Th) (i n : Nat) (C : ByteArray) (M : List Md) (w : World) (hr : ThRow base w lv L) (hs : Short L) (h2 : 2 ≤ L.length) (hL : L.length ≤ 1000000000) (hn : shTh L = n) (hin : i < n) (hp : isP (((L.getD 0 th0).path.take n).drop i) = true)
    (ih : ∀ W, Below w.heap.size w W → Calls Tryz.prog 56 #[lv, .int .i64 (n : Int)] W (NodePost C M W)) (hC : C.size < 32 → Can 8 C) (hC6 : C.size ≤ 6000) (hH : (textC (hashOf C)).size ≤ 6000) (hM : M.length ≤ 1000000000)
    (hz : (listC [textC (codeOf false (((L.getD 0 th0).path.take n).drop i)), refC C]).size ≤ 6000) :
    Calls Tryz.prog 56 #[lv, .int .i64 (i : Int)] w (NodePost (listC [textC (codeOf false (((L.getD 0 th0).path.take n).drop i)), refC C]) (⟨(L.getD 0 th0).path.take i, listC [textC (codeOf false (((L.getD 0 th0).path.take n).drop i)), refC C], decide (32 ≤ (listC [textC (codeOf false (((L.getD 0 th0).path.take n).drop i)), refC C]).size)⟩ :: M) w) := by
  have HSh := hide (shared_any base lv L w hr hs (by omega) hL)
  rw [hn] at HSh
  have hnl : n ≤ (L.getD 0 th0).path.length := by rw [← hn]; exact shTh_le
  have hx := hs.at 0
  obtain ⟨g, cap, qa, qc, rfl, hq, x0, x1, x2, _⟩ := hr.cellAt 0 (by omega)
  simp only [Nat.zero_mul, Nat.zero_add] at x0 x1 x2
  have HC : Hid (∀ W, Below w.heap.size w W → W.cell? ⟨g, 0, none⟩ = some (.slice qa (L.getD 0 th0).path.length qc)) := fun W hW => (hW.cell (p := ⟨g, 0, none⟩) (World.block_lt_of_cell? w _ x0)).trans x0
  generalize L.getD 0 th0 = x at *
  have hqc := hq.cap
  have HQ := hide hq
  have i0 : (0 : Int) ≤ (i : Int) := by omega
  have i1 : (i : Int) < (n : Int) := by omega
  have i2 : (x.path.length : Int) ≤ (qc : Int) := by omega
  have i3 : (i : Int) ≤ (qc : Int) := by omega
  have i4 : (n : Int) ≤ (qc : Int) := by omega
  have i5 : (n : Int) ≤ (x.path.length : Int) := by omega
  have i6 : (i : Int) ≤ (n : Int) := by omega
  have i9 : (i : Int) ≤ (x.path.length : Int) := by omega
  have i7 : ((L.length : Int) == 1) = false := by simp; omega
  have i8 : ¬ qc = i := by omega
  have i10 : (0 : Int) < (L.length : Int) := by omega
  have HTo := hide (totS_two _ _ hz)
  have HPk : Hid (∀ W, Below w.heap.size w W → Calls Tryz.prog 91 #[.slice (qa.map (fun x => x.add i)) (n - i) (qc - i), .bool false] W fun e w' => e = .returned (.tuple #[.string (codeOf false ((x.path.take n).drop i)), .int .i64 0]) ∧ Below W.heap.size W w') := fun W hW => by
    have h1 := rPack_drop ((HQ.out.keep (KpI.of_below hW)).take n) i false hp
    rwa [List.length_take, Nat.min_eq_left hnl] at h1
  have HIt := hide (fun W => item_any C W hC hC6 hH)
  have HIh := hide ih
  generalize codeOf false ((x.path.take n).drop i) = cd at *
  have HT1 : Hid ((textC cd).size ≤ 6000) := by
    have h1 := HTo.out
    simp only [totS_eq, List.map_cons, List.map_nil, List.sum_cons, List.sum_nil] at h1
    show _ ≤ _; omega
  generalize hcode : listC [textC cd, refC C] = code at *
  have HCo := hide hcode
  unfold NodePost at *
  clear hr hs hq x0 x1 x2 hcode ih hC hp hz
  go_enter Tryz.func56, Tryz.ntmps56
  go_wp2_with fail
  refine HSh.out.mono ?_
  rintro e w1 ⟨rfl, hb1⟩
  have HB2 := hide (hb1.trans ((below_alloc w1 (.cells #[.bool false, .string ⟨#[]⟩, .slice none 0 0] 164)).mono hb1.size))
  have HZ1 : Hid (w.heap.size ≤ w1.heap.size) := hb1.size
  have y0 := HC.out _ HB2.out
  clear hb1
  go_wp2_with fail
  refine (HPk.out _ HB2.out).mono ?_
  rintro e w2 ⟨rfl, hb2⟩
  clear y0
  obtain ⟨_, k1, k2, k3⟩ := box3 hb2
  have k4 : w1.heap.size < w2.heap.size := (Array.getElem?_eq_some_iff.1 k1).1
  have HB3 : Hid (Below w.heap.size w w2) := HB2.out.trans (hb2.mono HB2.out.size)
  have HK := hide k1
  have HK4 := hide k4
  clear hb2 k1 k2 k3 k4
  go_wp2_with fail
  refine (HIh.out _ HB3.out).mono ?_
  rintro e w3 ⟨mv, rfl, hmv, hb3⟩
  have HB4 : Hid (Below w.heap.size w w3) := HB3.out.trans (hb3.mono HB3.out.size)
  have HK3 : Hid (w3.heap[w1.heap.size]? = some (.cells #[.bool false, .string ⟨#[]⟩, .slice none 0 0] 164 (0, 0))) := (hb3.block _ HK4.out).trans HK.out
  have HZ3 : Hid (w2.heap.size ≤ w3.heap.size) := hb3.size
  have HMv := hide hmv
  clear hb3 hmv
  go_wp2_with fail
  refine (HIt.out _).mono ?_
  rintro e w4 ⟨l, b, ao, lo, lc, rfl, hit, hb4⟩
  have HIT := hide hit
  have HB5 : Hid (Below w.heap.size w w4) := HB4.out.trans (hb4.mono HB4.out.size)
  have k1 : w4.heap[w1.heap.size]? = some (.cells #[.bool false, .string ⟨#[]⟩, .slice none 0 0] 164 (0, 0)) := (hb4.block _ (Nat.lt_of_lt_of_le HK4.out HZ3.out)).trans HK3.out
  have HMv4 := hide (HMv.out.keep hb4)
  have k4 : w1.heap.size < w4.heap.size := (Array.getElem?_eq_some_iff.1 k1).1
  have k5 := frozen_of_row _ _ 0 _ _ k1
  have k6 := frozen_of_row _ _ 1 _ _ k1
  have k7 := frozen_of_row _ _ 2 _ _ k1
  have k8 : w4.cell? ⟨w1.heap.size, 0, none⟩ = some (.bool false) := cell_of_row _ _ 0 _ _ (0, 0) k1
  have k9 : w4.cell? ⟨w1.heap.size, 1, none⟩ = some (.string ⟨#[]⟩) := cell_of_row _ _ 1 _ _ (0, 0) k1
  have k10 : w4.cell? ⟨w1.heap.size, 2, none⟩ = some (.slice none 0 0) := cell_of_row _ _ 2 _ _ (0, 0) k1
  have HK5 := hide k1
  clear hit hb4 k1
  go_wp2_with fail
  have h3 := below_set3 HB5.out HZ1.out (.bool true) (.string ⟨#[]⟩) (.slice (some ⟨w4.heap.size, 0, none⟩) 2 2)
  have hS := set3 HK5.out (.bool true) (.string ⟨#[]⟩) (.slice (some ⟨w4.heap.size, 0, none⟩) 2 2)
  generalize (((w4.setCell ⟨w1.heap.size, 0, none⟩ (.bool true)).setCell ⟨w1.heap.size, 1, none⟩ (.string ⟨#[]⟩)).setCell ⟨w1.heap.size, 2, none⟩ (.slice (some ⟨w4.heap.size, 0, none⟩) 2 2)) = W3 at *
  have hnw := heap_alloc_new W3 (.cells #[.bool false, .string cd, .slice none 0 0, .bool l, .string b, .slice ao lo lc] 164)
  rw [hS.size] at hnw
  have hkk : ∀ k, w3.heap.size ≤ k → k < w4.heap.size → (W3.alloc (.cells #[.bool false, .string cd, .slice none 0 0, .bool l, .string b, .slice ao lo lc] 164)).heap[k]? = w4.heap[k]? := fun k h1 h2 => by
    rw [Below.heap_alloc _ _ _ (by rw [hS.size]; exact h2)]
    exact hS.far k (by have := HK4.out; have := HZ3.out; omega)
  have HCn := code_new w4.heap.size [.bool false, .string cd, .slice none 0 0, .bool l, .string b, .slice ao lo lc] 2 [[.bool false, .string cd, .slice none 0 0], [.bool l, .string b, .slice ao lo lc]] [textC cd, refC C] _ (fun k => w3.heap.size ≤ k) hnw rfl rfl (by decide) (.cons (ItO.text 8 _ _ _ HT1.out) (.cons (HIT.out.keep (fun k h1 h2 => ⟨hkk k h1 h2, h1⟩)) .nil)) HTo.out
  rw [HCo.out] at HCn
  have HMv5 : Hid (MdRow w2.heap.size (W3.alloc (.cells #[.bool false, .string cd, .slice none 0 0, .bool l, .string b, .slice ao lo lc] 164)) mv M) := HMv4.out.keepX (fun k h1 h2 => by
    rw [Below.heap_alloc _ _ _ (by rw [hS.size]; exact h2)]
    exact hS.far k (by have := HK4.out; omega)) (hS.ints.trans (KpI.alloc _ _))
  refine HCn.mono ?_
  rintro e w5 ⟨rfl, hb5⟩
  have h4 := h3.trans ((below_alloc W3 (.cells #[.bool false, .string cd, .slice none 0 0, .bool l, .string b, .slice ao lo lc] 164)).mono h3.size)
  have HB6 : Hid (Below w.heap.size w w5) := h4.trans (hb5.mono h4.size)
  have HMv6 := hide (HMv5.out.keep hb5)
  clear HCn hnw h3 h4 hb5 hkk hS
  have y0 := HC.out _ HB6.out
  have HMd := hide (MdRow.one w.heap.size w5 qa qc (x.path.take i) code (decide (32 ≤ code.size)) i (by simp; omega) HB6.out.size ((HQ.out.keep (KpI.of_below HB6.out)).take i))
  have HDc : Hid (decide (32 ≤ code.size) = decide ((32 : Int) ≤ (code.size : Int))) := by show _ = _; rw [decide_eq_decide]; omega
  rw [HDc.out] at HMd
  clear k4 k5 k6 k7 k8 k9 k10
  go_wp2_with (at_builtin; go_must (refine wpList_append_md rfl _ _ rfl w.heap.size w2.heap.size _ _ rfl HMd.out _ M rfl (HMv6.out.keep (below_alloc _ _)) (by simp only [List.length_cons, List.length_nil]; omega) (Nat.le_trans HB6.out.size (below_alloc _ _).size) ?_); intro v6 w6 hr6 hg6 hk6 hkp6; go_must (have HX6 := hide (And.intro hr6 (Below.grown (HB6.out.trans ((below_alloc _ _).mono HB6.out.size)) hg6 (Nat.le_trans HB6.out.size (below_alloc _ _).size) hk6))); clear hr6 hg6 hk6 hkp6)
  go_ret2
  refine ⟨v6, rfl, ?_, HX6.out.2⟩
  rw [HDc.out]
  exact HX6.out.1
end Go.Proofs.YthdjmldddjljfaaGreatDoor.V
namespace Go.Proofs.YthdjmldddjljfaaGreatDoor.V
open Go.RowKit
attribute [local go_sem ↓] Go.wp_at_zero Go.wp_at_succ

/-- what lies behind a number -/
def inK (i k : Nat) (x : Th) : Bool := decide (i < x.path.length) && decide (x.path.getD i 0 = (k : Int))
def partK (L : List Th) (i k : Nat) : List Th := L.filter (inK i k)
def brT (L : List Th) (i : Nat) (C : Nat → ByteArray) (k : Nat) : ByteArray := if (partK L i k).isEmpty then textC eB else refC (C k)
def brM (L : List Th) (i : Nat) (M : Nat → List Md) (k : Nat) : List Md := if (partK L i k).isEmpty then [] else M k
def valAt (L : List Th) (P : List Int) : ByteArray := if L.any (atF P) then (L.getD (L.findIdx (atF P)) th0).value else eB
/-- the branch's items, as far as they are laid -/
def brTs (L : List Th) (i : Nat) (C : Nat → ByteArray) (k : Nat) : List ByteArray := (List.range 16).map (fun j => if j < k then brT L i C j else textC eB) ++ [textC eB]
theorem flat_set3 : ∀ (css : List (List Value)) (k : Nat) (a b c : Value), (∀ x ∈ css, x.length = 3) → k < css.length → (css.set k [a, b, c]).flatten = ((css.flatten.set (k * 3) a).set (k * 3 + 1) b).set (k * 3 + 2) c
  | [], k, _, _, _, _, h => by simp at h
  | x :: r, 0, a, b, c, h, _ => by
    have hx := h x (List.mem_cons_self ..)
    match x, hx with
    | [u, v, z], _ => simp
  | x :: r, k + 1, a, b, c, h, hk => by
    have hx := h x (List.mem_cons_self ..)
    have ih := flat_set3 r k a b c (fun y hy => h y (List.mem_cons_of_mem _ hy)) (by simpa using hk)
    match x, hx with
    | [u, v, z], _ =>
      rw [List.set_cons_succ, List.flatten_cons, ih, List.flatten_cons]
      have e : (k + 1) * 3 = k * 3 + 3 := by omega
      rw [e]
      simp
theorem heap_set3 {w : World} {X : Nat} {css : List (List Value)} {T : TypeId} (h : w.heap[X]? = some (.cells css.flatten.toArray T (0, 0))) (h3 : ∀ x ∈ css, x.length = 3) {k : Nat} (hk : k < css.length) (a b c : Value) :
    (((w.setCell ⟨X, k * 3, none⟩ a).setCell ⟨X, k * 3 + 1, none⟩ b).setCell ⟨X, k * 3 + 2, none⟩ c).heap[X]? = some (.cells (css.set k [a, b, c]).flatten.toArray T (0, 0)) := by
  have h1 := heap_setCell_same w X (k * 3) _ T a h
  have h2 := heap_setCell_same _ X (k * 3 + 1) _ T b h1
  have h4 := heap_setCell_same _ X (k * 3 + 2) _ T c h2
  rw [h4, flat_set3 css k a b c h3 hk]
  simp
theorem al_set {α β : Type} {R : α → β → Prop} {l : List α} {m : List β} (h : Al R l m) (k : Nat) {a : α} {b : β} (hab : R a b) : Al R (l.set k a) (m.set k b) := by
  induction h generalizing k with
  | nil => simp; exact .nil
  | cons h1 h2 ih =>
    cases k with
    | zero => exact .cons hab h2
    | succ k => exact .cons h1 (ih k)
theorem brTs_set (L : List Th) (i : Nat) (C : Nat → ByteArray) {k : Nat} (hk : k < 16) : (brTs L i C k).set k (brT L i C k) = brTs L i C (k + 1) := by
  unfold brTs
  rw [List.set_append, if_pos (by simpa using hk)]
  congr 1
  apply List.ext_getElem
  · simp
  · intro j h1 h2
    have hj : j < 16 := by simpa using h2
    rw [List.getElem_set]
    simp only [List.getElem_map, List.getElem_range]
    by_cases e : k = j
    · subst e; simp
    · rw [if_neg e]
      by_cases e2 : j < k
      · rw [if_pos e2, if_pos (by omega)]
      · rw [if_neg e2, if_neg (by omega)]
theorem brTs_skip (L : List Th) (i : Nat) (C : Nat → ByteArray) {k : Nat} (he : (partK L i k).isEmpty = true) : brTs L i C (k + 1) = brTs L i C k := by
  unfold brTs
  congr 1
  apply List.map_congr_left
  intro j _
  by_cases e : j < k
  · rw [if_pos e, if_pos (by omega)]
  · rw [if_neg e]
    by_cases e2 : j < k + 1
    · obtain rfl : j = k := by omega
      rw [if_pos e2]; unfold brT; rw [if_pos he]
    · rw [if_neg e2]
theorem brTs_end (L : List Th) (i : Nat) (C : Nat → ByteArray) (v : ByteArray) : (brTs L i C 16).set 16 (textC v) = (List.range 16).map (brT L i C) ++ [textC v] := by
  unfold brTs
  rw [List.set_append, if_neg (by simp)]
  have e : (List.range 16).map (fun j => if j < 16 then brT L i C j else textC eB) = (List.range 16).map (brT L i C) := by
    apply List.map_congr_left
    intro j hj
    rw [if_pos (List.mem_range.1 hj)]
  rw [e]
  simp
theorem brTs_end0 (L : List Th) (i : Nat) (C : Nat → ByteArray) : brTs L i C 16 = (List.range 16).map (brT L i C) ++ [textC eB] := by
  unfold brTs
  congr 1
/-- a branch in the making: its box, its row of items -/
structure Mk (R X : Nat) (w : World) (css : List (List Value)) (ts : List ByteArray) : Prop where
  box : w.heap[R]? = some (.cells #[.bool true, .string ⟨#[]⟩, .slice (some ⟨X, 0, none⟩) 17 17] 164 (0, 0))
  row : w.heap[X]? = some (.cells css.flatten.toArray 164 (0, 0))
  its : Al (ItO 8 w (fun k => X < k)) css ts
  lt : R < X
theorem ItO.len3 {w : World} {ok : Nat → Prop} {r : Nat} {cs : List Value} {t : ByteArray} (h : ItO r w ok cs t) : cs.length = 3 := h.b.len3
theorem al3 {w : World} {ok : Nat → Prop} {r : Nat} {css : List (List Value)} {ts : List ByteArray} (h : Al (ItO r w ok) css ts) : ∀ x ∈ css, x.length = 3 := by
  induction h with
  | nil => intro x hx; cases hx
  | cons h _ ih =>
    intro x hx
    rcases List.mem_cons.1 hx with rfl | hx
    · exact h.len3
    · exact ih x hx
theorem Mk.keep {R X : Nat} {w w' : World} {css : List (List Value)} {ts : List ByteArray} (h : Mk R X w css ts) (hb : Below w.heap.size w w') : Mk R X w' css ts :=
  ⟨(hb.block R (Array.getElem?_eq_some_iff.1 h.box).1).trans h.box, (hb.block X (Array.getElem?_eq_some_iff.1 h.row).1).trans h.row, h.its.mono (fun _ _ h => h.keep (fun k hk hl => ⟨hb.block k hl, hk⟩)), h.lt⟩
/-- an item is laid -/
theorem Mk.set {R X : Nat} {w : World} {css : List (List Value)} {ts : List ByteArray} (h : Mk R X w css ts) {k : Nat} (hk : k < css.length) {a b c : Value} {t : ByteArray} (hi : ItO 8 w (fun k => X < k) [a, b, c] t) :
    Mk R X (((w.setCell ⟨X, k * 3, none⟩ a).setCell ⟨X, k * 3 + 1, none⟩ b).setCell ⟨X, k * 3 + 2, none⟩ c) (css.set k [a, b, c]) (ts.set k t) := by
  have hf : ∀ g, g ≠ X → (((w.setCell ⟨X, k * 3, none⟩ a).setCell ⟨X, k * 3 + 1, none⟩ b).setCell ⟨X, k * 3 + 2, none⟩ c).heap[g]? = w.heap[g]? := fun g hg => by
    rw [Below.heap_setCell _ _ _ _ hg, Below.heap_setCell _ _ _ _ hg, Below.heap_setCell _ _ _ _ hg]
  refine ⟨(hf R (by have := h.lt; omega)).trans h.box, heap_set3 h.row (al3 h.its) hk a b c, ?_, h.lt⟩
  exact (al_set h.its k hi).mono (fun _ _ h => h.keep (fun g hg _ => ⟨hf g (by omega), hg⟩))
theorem setX_ints {w : World} {X : Nat} {cur : Array Value} (h : w.heap[X]? = some (.cells cur 164 (0, 0))) {x y z : Value} {p q r : Nat} : KpI w (((w.setCell ⟨X, p, none⟩ x).setCell ⟨X, q, none⟩ y).setCell ⟨X, r, none⟩ z) := fun g c hg => by
  have hne : g ≠ X := fun e => by
    subst e
    rw [h] at hg
    simp only [Option.some.injEq, Obj.cells.injEq] at hg
    exact absurd hg.2.1 (by decide)
  rw [Below.heap_setCell _ _ _ _ hne, Below.heap_setCell _ _ _ _ hne, Below.heap_setCell _ _ _ _ hne]
  exact hg
end Go.Proofs.YthdjmldddjljfaaGreatDoor.V
