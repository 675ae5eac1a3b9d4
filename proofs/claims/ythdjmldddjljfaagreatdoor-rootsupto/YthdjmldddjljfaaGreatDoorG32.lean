/-
  OUR OWN: VxVqH VxVqI VxVqJ VxVqK.
-/
import Derived.Test.YthdjmldddjljfaaGreatDoorG31
namespace Go.Proofs.YthdjmldddjljfaaGreatDoor.V
open Go.RowKit
attribute [local go_sem ↓] Go.wp_at_zero Go.wp_at_succ

theorem ext_refB (q : List Int) (o : Option Nx) : extF q o = match refB o true with
    | none => none
    | some n => if q = [] ∨ n.isNil = true then none else some (.ext q n) := by
  cases o with
  | none => rfl
  | some n =>
    unfold extF refB
    simp only
    cases h1 : n.isNil <;> cases n.isHash <;> cases n.isBr <;> simp [h1]
set_option maxHeartbeats 4000000 in
set_option maxRecDepth 20000 in
theorem two_ext (r f : Nat) (hr : r ≤ 100) (ih : ReferOk r f) (a b : ByteArray) (g lc : Nat) (b0 : ByteArray) (o0 : Option Addr) (n0 k0 : Nat) (l1 : Bool) (b1 : ByteArray) (o1 : Option Addr) (n1 k1 : Nat) (ao : Option Addr) (cap : Nat) (p q : List Int) (w : World) (h2 : Two r w g a b false b0 o0 n0 k0 l1 b1 o1 n1 k1) (hp : PSl w ao cap p) (ha : a.size ≤ 6000) (hbs : b.size ≤ 6000) (hbf : b.size < 32 → b.size < f) (hpl : p.length ≤ 300) (hu : unpL b0.data.toList = some (q, false)) (hfar : p.length + q.length ≤ 128)
    (o : Option Nx) (hO : o = extF q (refF (parseF f) b (p.length + q.length))) :
    Calls Tryz.prog 110 #[.agg #[.bool true, .string ⟨#[]⟩, .slice (some ⟨g, 0, none⟩) 2 lc], .slice ao p.length cap, .bool false] w fun e w' => ThPost o p false w e w' := by
  have hbz : b0.size ≤ 6000 := by
    rcases h2.i0.txt with ⟨_, h⟩ | ⟨h, _⟩
    · have := txt_size h; omega
    · cases h
  have hql := unpV_len hu
  have HT : Hid (∀ W, Below w.heap.size w W → Two r W g a b false b0 o0 n0 k0 l1 b1 o1 n1 k1) := fun W hW => h2.keep hW
  have HU := hide (fun W => rUnpack_full b0 W (by omega) q false hu)
  have HJ : Hid (∀ W ao1 cap1, Below w.heap.size w W → Ints W ao1 q → (ao1 = none → cap1 = 0) → Calls Tryz.prog 134 #[.slice ao p.length cap, .slice ao1 q.length cap1] W fun e w' => ∃ v, e = .returned v ∧ NewInts W.heap.size w' v (p ++ q) ∧ Below W.heap.size W w') := fun W ao1 cap1 hW h1 h3 => joined_any ao ao1 cap cap1 p q W (hp.keep (KpI.of_below hW)).ints h1 hp.nil h3 (by omega) (by omega)
  have x1 := (HT.out _ (below_alloc w (.cells #[.bool true, .string ⟨#[]⟩, .slice (some ⟨g, 0, none⟩) 2 lc] 164))).c1
  have HRf : Hid (∀ W ao2 cap2, Below w.heap.size w W → PSl W ao2 cap2 (p ++ q) → Calls Tryz.prog 136 #[.agg #[.bool l1, .string b1, .slice o1 n1 k1], .slice ao2 (p.length + q.length) cap2, .bool true] W fun e w' => ThPost (refB (refF (parseF f) b (p.length + q.length)) true) (p ++ q) true W e w') := fun W ao2 cap2 hW hps => by
    have := ih _ _ _ b ao2 cap2 (p ++ q) true W (HT.out W hW).i1 hps hbs (by rw [List.length_append]; omega) hbf
    rw [List.length_append] at this
    exact this
  have HWF : Hid (∀ n, refB (refF (parseF f) b (p.length + q.length)) true = some n → n.WF) := fun n hn => by
    unfold refB at hn
    split at hn
    · cases hn
    · rename_i m hm
      split at hn
      · cases hn
      · injection hn with hn; subst hn; exact refF_WF (fun t d n h => (parseF_WF f t d n h).1) hm
  have HO : Hid (o = match refB (refF (parseF f) b (p.length + q.length)) true with
    | none => none
    | some n => if q = [] ∨ n.isNil = true then none else some (.ext q n)) := by show _ = _; rw [hO, ext_refB]
  clear h2 hp hu ih hO
  generalize refB (refF (parseF f) b (p.length + q.length)) true = ro at *
  go_enter Tryz.func110, Tryz.ntmps110
  go_wp2_with fail
  refine (HU.out _).mono ?_
  rintro e w1 ⟨ao1, cap1, rfl, hi1, ⟨_, hz1⟩, hb1⟩
  obtain ⟨y0, y1, y2, hbw⟩ := itBox hb1
  have HJ1 := hide (HJ.out w1 ao1 cap1 hbw hi1 hz1)
  have HB1 := hide (And.intro hb1 hbw)
  clear hb1 hbw hi1 hz1
  go_wp2_with fail
  refine HJ1.out.mono ?_
  rintro e w2 ⟨v, rfl, hv, hb2⟩
  obtain ⟨ao2, cap2, rfl, hps⟩ := PSl.of_own hv
  obtain ⟨z0, z1, z2, hbw2⟩ := itBox (HB1.out.1.trans (hb2.mono HB1.out.1.size))
  have t2 := HT.out w2 hbw2
  have u0 := t2.c0
  have u3 := t2.c3
  have u4 := t2.c4
  have u5 := t2.c5
  have HR2 := hide (HRf.out w2 ao2 cap2 hbw2 hps)
  have HB2 := hide hbw2
  have HLn : Hid ((p ++ q).length = p.length + q.length) := List.length_append
  rw [HLn.out]
  clear hb2 hbw2 hv t2 hps
  have j1 : ((p.length + q.length : Nat) : Int) ≤ 128 := by omega
  generalize p.length + q.length = N at *
  go_wp2_with fail
  refine HR2.out.mono ?_
  intro e w3 hpp
  obtain ⟨ao3, n3, cap3, rfl, hth, hb3⟩ := hpp.form
  have HB3 : Hid (Below w.heap.size w w3) := HB2.out.trans (hb3.mono HB2.out.size)
  have HTH : Hid (∀ m, ro = some m → n3 = (flatX m (p ++ q) true).length ∧ ThRow w.heap.size w3 (.slice ao3 n3 cap3) (flatX m (p ++ q) true)) := fun m hm => ⟨(hth m hm).1, (hth m hm).2.base HB2.out.size⟩
  clear hpp hth hb3
  cases ro with
  | none =>
    simp only [Option.isSome_none]
    go_wp2
    go_ret2
    exact ThPost.none HO.out ao3 n3 cap3 (by simp) HB3.out
  | some n =>
    simp only [Option.isSome_some]
    obtain ⟨hn3, hrow⟩ := HTH.out n rfl
    by_cases hq : q = []
    · have HO2 : Hid (o = none) := by show _ = _; rw [HO.out]; simp only; rw [if_pos (.inl hq)]
      have j2 : (q.length : Int) ≤ 0 := by rw [hq]; simp
      clear hq hn3 hrow
      go_wp2
      go_ret2
      exact ThPost.none HO2.out _ _ _ rfl HB3.out
    · have j2 : (0 : Int) < (q.length : Int) := by have := List.length_pos_iff.2 hq; omega
      cases hnil : n.isNil with
      | true =>
        have HO2 : Hid (o = none) := by show _ = _; rw [HO.out]; simp only; rw [if_pos (.inr hnil)]
        have h0 : n3 = 0 := by
          rw [hn3]
          cases n with
          | nil => rfl
          | hash _ => cases hnil
          | leaf _ _ => cases hnil
          | ext _ _ => cases hnil
          | br _ _ => cases hnil
        subst h0
        clear hq hn3 hrow hnil
        go_wp2
        go_ret2
        exact ThPost.none HO2.out _ _ _ rfl HB3.out
      | false =>
        have HO2 : Hid (o = some (.ext q n)) := by
          show _ = _; rw [HO.out]; simp only
          rw [if_neg (by rintro (h | h); { exact hq h }; { rw [hnil] at h; cases h })]
        have hpos : 0 < n3 := by
          rw [hn3]
          exact List.length_pos_iff.2 (flat_ne n (p ++ q) true (HWF.out n rfl) hnil)
        have j3 : (0 : Int) < (n3 : Int) := by omega
        have HRow := hide hrow
        clear hq hn3 hrow hnil hpos
        go_wp2
        go_ret2
        exact ThPost.some HO2.out (.slice ao3 n3 cap3) (by simp; omega) HRow.out HB3.out
/-- what begins with a path, whole -/
theorem things_two (r f : Nat) (hr : r ≤ 100) (ih : ReferOk r f) (t : ByteArray) (ts : List ByteArray) (v : Value) (css : List (List Value)) (ao : Option Addr) (cap : Nat) (p : List Int) (w : World) (hts : itemsOf t = some ts) (ho : w.ownsRow 0 164 3 v css.length css.flatten) (hi : Al (ItB r w) css ts) (h2 : ts.length = 2) (hp : PSl w ao cap p) (ht : t.size ≤ 6000) (hpl : p.length ≤ 300) (hch : ∀ u, u ∈ ts → u.size < 32 → u.size < f) :
    Calls Tryz.prog 110 #[.agg #[.bool true, .string ⟨#[]⟩, v], .slice ao p.length cap, .bool false] w fun e w' => ThPost (thB (parseF (f + 1) t p.length) false) p false w e w' := by
  obtain ⟨g, lc, l0, b0, o0, n0, k0, l1, b1, o1, n1, k1, rfl, htwo⟩ := two_of ho hi h2
  have m0 := getD_mem (l := ts) (i := 0) (by omega)
  have m1 := getD_mem (l := ts) (i := 1) (by omega)
  have s0 := itemsOf_lt hts m0
  have s1 := itemsOf_lt hts m1
  have hpe : thB (parseF (f + 1) t p.length) false = pathedF (parseF f) (ts.getD 0 eB) (ts.getD 1 eB) p.length := by
    rw [parseF, hts]
    simp only
    rw [if_pos h2]
    cases pathedF (parseF f) (ts.getD 0 eB) (ts.getD 1 eB) p.length with
    | none => rfl
    | some n => simp [thB]
  rw [hpe]
  rcases htwo.i0.txt with ⟨rfl, hx⟩ | ⟨rfl, rfl, hx⟩
  · cases hu : unpL b0.data.toList with
    | none => exact two_none r _ _ g lc _ b0 o0 n0 k0 l1 b1 o1 n1 k1 ao cap p w htwo hp (by omega) hpl hu _ (by unfold pathedF; rw [hx]; simp only; rw [hu])
    | some qq =>
      obtain ⟨q, lf⟩ := qq
      by_cases hf : 128 < p.length + q.length
      · exact two_leaf r _ _ g lc b0 o0 n0 k0 l1 b1 o1 n1 k1 ao cap p q lf w htwo hp (by omega) hpl hu (.inl hf) _ (by unfold pathedF; rw [hx]; simp only; rw [hu]; simp only; rw [if_pos hf, if_pos hf])
      · cases lf with
        | true => exact two_leaf r _ _ g lc b0 o0 n0 k0 l1 b1 o1 n1 k1 ao cap p q true w htwo hp (by omega) hpl hu (.inr rfl) _ (by unfold pathedF; rw [hx]; simp only; rw [hu]; simp only; rw [if_neg hf, if_neg hf]; simp)
        | false => exact two_ext r f hr ih _ _ g lc b0 o0 n0 k0 l1 b1 o1 n1 k1 ao cap p q w htwo hp (by omega) (by omega) (hch _ m1) hpl hu (by omega) _ (by unfold pathedF; rw [hx]; simp only; rw [hu]; simp only; rw [if_neg hf]; simp)
  · exact two_none r _ _ g lc _ _ o0 n0 k0 l1 b1 o1 n1 k1 ao cap p w htwo hp (by omega) hpl rfl _ (by unfold pathedF; rw [hx])
end Go.Proofs.YthdjmldddjljfaaGreatDoor.V
namespace Go.Proofs.YthdjmldddjljfaaGreatDoor.V
open Go.RowKit
attribute [local go_sem ↓] Go.wp_at_zero Go.wp_at_succ

theorem Al.append {α β : Type} {R : α → β → Prop} {l l2 : List α} {m m2 : List β} (h : Al R l m) (h2 : Al R l2 m2) : Al R (l ++ l2) (m ++ m2) := by
  induction h with
  | nil => exact h2
  | cons h _ ih => exact .cons h ih
theorem al_things {w : World} {css : List (List Value)} {L : List Th} (h : Al (ThAt w) css L) : css.flatten.length = L.length * 4 ∧ ∀ u ∈ css.flatten, u.oneCell' = true := by
  induction h with
  | nil => exact ⟨rfl, by simp⟩
  | cons h _ ih =>
    obtain ⟨ao, cap, rfl, _⟩ := h
    refine ⟨by simp only [List.flatten_cons, List.length_append, List.length_cons, List.length_nil, ih.1]; omega, ?_⟩
    intro u hu
    rw [List.flatten_cons, List.mem_append] at hu
    rcases hu with hu | hu
    · simp only [List.mem_cons, List.not_mem_nil, or_false] at hu
      rcases hu with rfl | rfl | rfl | rfl <;> rfl
    · exact ih.2 u hu
theorem own_reads {w : World} {base e k n : Nat} {v : Value} {xs : List Value} (h : w.ownsRow base e k v n xs) : Reads w v n xs := by
  have h0 := h
  rcases h.2 with ⟨rfl, rfl⟩ | ⟨g, c, cur, rfl, _⟩
  · refine .inl ⟨rfl, rfl, ?_⟩
    have := h.1
    simpa using this
  · exact .inr ⟨_, c, rfl, fun j u hu => h0.cells (g := g) rfl j u hu⟩
theorem wpList_append_things {ops : Array Oper} {rest : List Oper} {o : Oper} {a : Act} {Q : Exit → Act → World → Prop} {w : World} (hgd : o.guard = none) (s x : Operand)
    (ho : o.op = .call { callee := .builtin .append, args := #[s, x], argTypes := #[75, 75] })
    (base base2 : Nat) (v : Value) (L : List Th) (hs : a.eval s = v) (h1 : ThRow base w v L) (sv : Value) (M : List Th) (hx : a.eval x = sv) (h2 : ThRow base2 w sv M) (hl : L.length + M.length ≤ 1000000) (hb : base ≤ w.heap.size)
    (h : ∀ v' w', ThRow base w' v' (L ++ M) → w.grownBy w' v.ownBlock → (∀ k, v.ownBlock = some k → base ≤ k) → KpI w w' → wpList Tryz.prog ops Q rest (a.put o.dst v') w') : wpList Tryz.prog ops Q (o :: rest) a w := by
  obtain ⟨i0, hi, hz0, hz1, hz2⟩ := info_parts infoTh
  obtain ⟨css1, o1, a1⟩ := h1
  obtain ⟨css2, o2, a2⟩ := h2
  refine wpList_append_reads hgd s x _ ho base 118 i0 _ 4 64 Tryz.underlying75 hi hz0 hz1 hz2 rfl (by decide) v L.length _ hs o1 sv M.length _ hx (own_reads o2) (al_things a2).1 (al_things a2).2 (by unfold maxLen; omega) (by omega) hb ?_
  intro v' w' ho' hg
  have hk : KpI w w' := KpI.of_grown o1 (by decide) hg
  refine h v' w' ⟨css1 ++ css2, ?_, (a1.append a2).mono (fun _ _ h => h.keep hk)⟩ hg (own_ge o1 (Nat.le_refl _)) hk
  rw [List.length_append, List.flatten_append]
  exact ho'

theorem txt_pos {t b : ByteArray} (h : txt t = some b) : 0 < t.size := by
  unfold txt at h
  split at h
  · rename_i x y e; have := hdN_le e; omega
  · cases h
/-- the first of a branch's things -/
def preF (c : Nat → Nx) (p : List Int) (q : Nat) : List Th := (List.range q).flatMap fun i => flatX (c i) (p ++ [(i : Int)]) false
def cntF (c : Nat → Nx) (q : Nat) : Nat := ((List.range q).filter fun i => !(c i).isNil).length
theorem preF_succ (c : Nat → Nx) (p : List Int) (q : Nat) : preF c p (q + 1) = preF c p q ++ flatX (c q) (p ++ [(q : Int)]) false := by
  unfold preF; rw [List.range_succ, List.flatMap_append]; simp
theorem cntF_succ (c : Nat → Nx) (q : Nat) : cntF c (q + 1) = cntF c q + if (c q).isNil = true then 0 else 1 := by
  unfold cntF
  rw [List.range_succ, List.filter_append, List.length_append]
  cases h : (c q).isNil <;> simp [h]
theorem cntF_le (c : Nat → Nx) (q : Nat) : cntF c q ≤ q := by
  have := List.length_filter_le (fun i => !(c i).isNil) (List.range q)
  unfold cntF; simpa using this
theorem totS_succ (ts : List ByteArray) (q : Nat) (h : q < ts.length) : totS (ts.take (q + 1)) = totS (ts.take q) + (ts.getD q eB).size := by
  rw [List.take_succ_eq_append_getElem h, totS_append, List.getD_eq_getElem?_getD, List.getElem?_eq_getElem h]; simp [totS]
theorem ref_len {P : ByteArray → Nat → Option Nx} (hP : ∀ t d n p u, P t d = some n → (flatX n p u).length ≤ t.size) {t : ByteArray} {d : Nat} {n : Nx} (p : List Int) (u : Bool) (h : refF P t d = some n) : (flatX n p u).length ≤ t.size := by
  rcases refF_cases h with ⟨b, hb, (⟨_, rfl⟩ | ⟨_, rfl⟩)⟩ | ⟨_, _, k⟩
  · simp [flatX]
  · have := txt_pos hb; simp [flatX]; omega
  · exact hP _ _ _ _ _ k
theorem pre_len {P : ByteArray → Nat → Option Nx} (hP : ∀ t d n p u, P t d = some n → (flatX n p u).length ≤ t.size) (ts : List ByteArray) (d : Nat) (p : List Int) : ∀ q, q ≤ ts.length → (preF (kidsF P ts d) p q).length ≤ totS (ts.take q)
  | 0, _ => by simp [preF, totS]
  | q + 1, hq => by
    have ih := pre_len hP ts d p q (by omega)
    rw [preF_succ, List.length_append, totS_succ ts q (by omega)]
    have : (flatX (kidsF P ts d q) (p ++ [(q : Int)]) false).length ≤ (ts.getD q eB).size := by
      unfold kidsF
      split
      · cases hr : refF P (ts.getD q eB) (d + 1) with
        | none => simp [flatX]
        | some m => exact ref_len hP _ _ hr
      · simp [flatX]
    omega
theorem parse_len : ∀ (f : Nat) (t : ByteArray) (d : Nat) (n : Nx) (p : List Int) (u : Bool), parseF f t d = some n → (flatX n p u).length ≤ t.size
  | 0, _, _, _, _, _, h => by cases h
  | f + 1, t, d, n, p, u, h => by
    have ih := parse_len f
    rw [parseF] at h
    split at h
    · cases h
    · rename_i ts hts
      have hsz := (itemsOf_sizes hts).1
      split at h
      · rename_i h2
        have hm := itemsOf_lt hts (getD_mem (l := ts) (i := 1) (by omega))
        unfold pathedF at h
        split at h
        · cases h
        · split at h
          · cases h
          · split at h
            · cases h
            · split at h
              · unfold leafF at h
                split at h
                · cases h
                · split at h
                  · cases h
                  · injection h with h; subst h; simp [flatX]; omega
              · unfold extF at h
                split at h
                · cases h
                · rename_i m hr
                  split at h
                  · cases h
                  · injection h with h; subst h
                    simp only [flatX]
                    exact Nat.le_trans (ref_len ih _ _ hr) (by omega)
      · split at h
        · rename_i h17
          unfold branchF at h
          split at h
          · cases h
          · split at h
            · split at h
              · cases h
              · split at h
                · cases h
                · injection h with h; subst h
                  have h1 := pre_len ih ts d p 16 (by omega)
                  have h2 := totS_succ ts 16 (by omega)
                  have h3 := totS_take ts (16 + 1)
                  have h5 : totS ts < t.size := hsz
                  have h4 := (itemsOf_sizes hts).2 _ (getD_mem (l := ts) (i := 16) (by omega))
                  simp only [flatX, List.length_append]
                  unfold preF at h1
                  split <;> simp only [List.length_nil, List.length_cons] <;> omega
            · cases h
        · cases h
end Go.Proofs.YthdjmldddjljfaaGreatDoor.V
namespace Go.Proofs.YthdjmldddjljfaaGreatDoor.V
open Go.RowKit
attribute [local go_sem ↓] Go.wp_at_zero Go.wp_at_succ

theorem refB_false (o : Option Nx) : refB o false = o := by
  cases o <;> simp [refB]
theorem PSl.one (w : World) (i : Int) : PSl (w.alloc (.cells #[.int .i64 i] 3)) (some ⟨w.heap.size, 0, none⟩) 1 [i] :=
  ⟨(fun h => by cases h), Nat.le_refl _, fun _ => ⟨w.heap.size, 0, _, rfl, heap_alloc_new w _, fun j hj => by
    obtain rfl : j = 0 := by simpa using hj
    rfl⟩⟩
set_option maxHeartbeats 4000000 in
set_option maxRecDepth 20000 in
theorem things_br (r f : Nat) (ih : ReferOk r f) (t : ByteArray) (ts : List ByteArray) (v : Value) (css : List (List Value)) (ao : Option Addr) (cap : Nat) (p : List Int) (under : Bool) (w : World) (hts : itemsOf t = some ts) (ho : w.ownsRow 0 164 3 v css.length css.flatten) (hi : Al (ItB r w) css ts) (h17 : ts.length = 17) (hp : PSl w ao cap p) (ht : t.size ≤ 6000) (hpl : p.length + (r + 1) ≤ 300) (hch : ∀ u, u ∈ ts → u.size < 32 → u.size < f) (ob : Option Nx) (hob : branchF (parseF f) ts p.length = ob) :
    Calls Tryz.prog 110 #[.agg #[.bool true, .string ⟨#[]⟩, v], .slice ao p.length cap, .bool under] w fun e w' => ThPost ob p under w e w' := by
  have HOb := hide hob
  clear hob
  have hl := hi.len
  obtain ⟨ao0, lc, rfl⟩ : ∃ ao lc, v = .slice ao css.length lc := by
    rcases ho.2 with ⟨rfl, h0⟩ | ⟨g, c, cur, rfl, _⟩
    · exact ⟨none, 0, by rw [h0]⟩
    · exact ⟨_, _, rfl⟩
  have h17c : css.length = 17 := by omega
  obtain ⟨g, _, _, _, _, _, rfl, _⟩ := itsB_cell ho hi (Below.refl _ _) 0 (by omega)
  have HC : Hid (∀ W, Below w.heap.size w W → ∀ q, q < 17 → ∃ l0 b0 ao0 lo0 lc0, ItB r W [.bool l0, .string b0, .slice ao0 lo0 lc0] (ts.getD q eB) ∧ W.cell? ⟨g, q * 3, none⟩ = some (.bool l0) ∧ W.cell? ⟨g, q * 3 + 1, none⟩ = some (.string b0) ∧ W.cell? ⟨g, q * 3 + 2, none⟩ = some (.slice ao0 lo0 lc0)) := fun W hW q hq => by
    obtain ⟨g', l0, b0, o0, n0, k0, hg', e0', x0, x1, x2⟩ := itsB_cell ho hi hW q (by omega)
    obtain rfl : g = g' := by simpa using hg'
    have i0 := al_getD hi q (by omega)
    rw [e0'] at i0
    exact ⟨l0, b0, o0, n0, k0, i0.keep hW, x0, x1, x2⟩
  have HS : Hid (∀ q, q < 17 → (ts.getD q eB).size ≤ 6000 ∧ ((ts.getD q eB).size < 32 → (ts.getD q eB).size < f)) := fun q hq => by
    have hm := getD_mem (l := ts) (i := q) (by omega)
    have := itemsOf_lt hts hm
    exact ⟨by omega, hch _ hm⟩
  have HPL : Hid (∀ q, q ≤ 16 → (preF (kidsF (parseF f) ts p.length) p q).length ≤ 6000) := fun q hq => by
    have h1 := pre_len (parse_len f) ts p.length p q (by omega)
    have h2 := totS_take ts q
    have h3 : totS ts < t.size := (itemsOf_sizes hts).1
    omega
  have HWc : Hid (∀ j, (kidsF (parseF f) ts p.length j).WF) := fun j => by
    unfold kidsF
    split
    · cases hr : refF (parseF f) (ts.getD j eB) (p.length + 1) with
      | none => trivial
      | some m => exact refF_WF (fun t d n h => (parseF_WF f t d n h).1) hr
    · trivial
  have HP := hide hp
  have HI := hide ih
  rw [h17c]
  have HB0 : Hid (Below w.heap.size w (w.alloc (.cells #[.bool true, .string ⟨#[]⟩, .slice (some ⟨g, 0, none⟩) 17 lc] 164))) := below_alloc w _
  clear ho hi hts ht hch hp ih hl h17 h17c
  go_enter Tryz.func110, Tryz.ntmps110
  go_wp2_with fail
  go_loopw [16, 17, 18] (fun ov nv iv wr => ∃ (q : Nat), q ≤ 16 ∧ iv = .int .i64 (q : Int) ∧ nv = .int .i64 (cntF (kidsF (parseF f) ts p.length) q : Int) ∧ ThRow (w.heap.size + 1) wr ov (preF (kidsF (parseF f) ts p.length) p q) ∧ Below (w.alloc (.cells #[.bool true, .string ⟨#[]⟩, .slice (some ⟨g, 0, none⟩) 17 lc] 164)).heap.size (w.alloc (.cells #[.bool true, .string ⟨#[]⟩, .slice (some ⟨g, 0, none⟩) 17 lc] 164)) wr ∧ ∀ j, j < q → (refF (parseF f) (ts.getD j eB) (p.length + 1)).isSome = true) (fun _ _ iv _ => 16 - (intOf iv).toNat)
  case atStart => exact ⟨0, by omega, rfl, rfl, ThRow.nil _ _, Below.refl _ _, fun j hj => by omega⟩
  case round =>
    obtain ⟨q, hq, rfl, rfl, hrow, hb, hall⟩ := hrel
    obtain ⟨y0, y1, y2, hbw⟩ := itBox hb
    have HB := hide (And.intro hb hbw)
    have HRow := hide hrow
    have HA := hide hall
    clear hb hbw hrow hall
    by_cases hlt : q < 16
    · obtain ⟨l0, b0, o0, n0, k0, hit, z0, z1, z2⟩ := HC.out wr HB.out.2 q (by omega)
      have HIt := hide hit
      have j0 : (0 : Int) ≤ (q : Int) := by omega
      have j1 : (q : Int) < 16 := by omega
      have j2 : (q : Int) < 17 := by omega
      have HJ : Hid (Calls Tryz.prog 134 #[.slice ao p.length cap, .slice (some ⟨wr.heap.size, 0, none⟩) 1 1] (wr.alloc (.cells #[.int .i64 (q : Int)] 3)).drew fun e w' => ∃ v, e = .returned v ∧ NewInts (wr.heap.size + 1) w' v (p ++ [(q : Int)]) ∧ Below wr.heap.size wr w') := by
        have hbd : Below wr.heap.size wr (wr.alloc (.cells #[.int .i64 (q : Int)] 3)).drew := (below_alloc _ _).drew
        have h1 := ((PSl.one wr (q : Int)).keep (w' := (wr.alloc (.cells #[.int .i64 (q : Int)] 3)).drew) (KpI.of_below (Below.refl _ _).drew)).ints
        have h2 := ((HP.out.keep (KpI.of_below HB.out.2)).keep (KpI.of_below hbd)).ints
        refine (joined_any ao (some ⟨wr.heap.size, 0, none⟩) cap 1 p [(q : Int)] _ h2 h1 HP.out.nil (fun e => by cases e) (by omega) (by simp)).mono ?_
        rintro e w' ⟨v, rfl, hv, hb⟩
        refine ⟨v, rfl, ?_, hbd.trans (hb.mono hbd.size)⟩
        rw [World.size_drew, World.size_alloc] at hv
        exact hv
      have HRf : Hid (∀ W ao2 cap2, Below wr.heap.size wr W → PSl W ao2 cap2 (p ++ [(q : Int)]) → Calls Tryz.prog 136 #[.agg #[.bool l0, .string b0, .slice o0 n0 k0], .slice ao2 (p.length + 1) cap2, .bool false] W fun e w' => ThPost (refF (parseF f) (ts.getD q eB) (p.length + 1)) (p ++ [(q : Int)]) false W e w') := fun W ao2 cap2 hW hps => by
        have hx := HS.out q (by omega)
        have := HI.out _ _ _ (ts.getD q eB) ao2 cap2 (p ++ [(q : Int)]) false W (HIt.out.keep hW) hps hx.1 (by rw [List.length_append]; simp; omega) hx.2
        rw [List.length_append, refB_false] at this
        exact this
      have HD : Hid (∀ W, Below wr.heap.size wr W → W.cell? ⟨w.heap.size, 2, none⟩ = some (.slice (some ⟨g, 0, none⟩) 17 lc) ∧ W.cell? ⟨g, q * 3, none⟩ = some (.bool l0) ∧ W.cell? ⟨g, q * 3 + 1, none⟩ = some (.string b0) ∧ W.cell? ⟨g, q * 3 + 2, none⟩ = some (.slice o0 n0 k0)) := fun W hW =>
        ⟨(hW.cell (p := ⟨w.heap.size, 2, none⟩) (World.block_lt_of_cell? wr _ y2)).trans y2, (hW.cell (p := ⟨g, q * 3, none⟩) (World.block_lt_of_cell? wr _ z0)).trans z0, (hW.cell (p := ⟨g, q * 3 + 1, none⟩) (World.block_lt_of_cell? wr _ z1)).trans z1, (hW.cell (p := ⟨g, q * 3 + 2, none⟩) (World.block_lt_of_cell? wr _ z2)).trans z2⟩
      have HLn : Hid ((p ++ [(q : Int)]).length = p.length + 1) := by show _ = _; simp
      have HKq : Hid (kidsF (parseF f) ts p.length q = (refF (parseF f) (ts.getD q eB) (p.length + 1)).getD .nil) := by show _ = _; unfold kidsF; rw [if_pos hlt]
      have HP2 := hide (HPL.out (q + 1) (by omega))
      have HNo : Hid (refF (parseF f) (ts.getD q eB) (p.length + 1) = none → ob = none) := fun h => by
        rw [← HOb.out]
        unfold branchF
        split
        · rfl
        · rw [if_neg]
          intro hc
          rw [List.all_eq_true] at hc
          have := hc q (List.mem_range.2 hlt)
          rw [h] at this; cases this
      have HW3 := hide (HWc.out q)
      have hcl := cntF_le (kidsF (parseF f) ts p.length) q
      clear hit
      generalize kidsF (parseF f) ts p.length = c at *
      generalize hro : refF (parseF f) (ts.getD q eB) (p.length + 1) = ro at *
      have HRo := hide hro
      clear hro
      go_wp2_with fail
      go_region_held3 (fun W => W.cell? ⟨w.heap.size, 2, none⟩ = some (.slice (some ⟨g, 0, none⟩) 17 lc) ∧ W.cell? ⟨g, q * 3, none⟩ = some (.bool l0) ∧ W.cell? ⟨g, q * 3 + 1, none⟩ = some (.string b0) ∧ W.cell? ⟨g, q * 3 + 2, none⟩ = some (.slice o0 n0 k0)) (first | go_keep | (simp [*])) ((first
        | (go_at_call 134; refine HJ.out.mono ?_; rintro e w2 ⟨v2, rfl, hv2, hb2⟩; obtain ⟨ao2, cap2, rfl, hps2⟩ := PSl.of_own hv2; (obtain ⟨d0, d1, d2, d3⟩ := HD.out w2 hb2); rw [HLn.out]; (have HR2 := hide (HRf.out w2 ao2 cap2 hb2 hps2)); (have HB2 := hide hb2); clear hv2 hps2 hb2)
        | (go_at_call 136; refine HR2.out.mono ?_; intro e w3 hpp; obtain ⟨ao3, n3, cap3, rfl, hth, hb3⟩ := hpp.form; (have HT3 := hide (And.intro hth hb3)); (have HB3 : Hid (Below wr.heap.size wr w3) := HB2.out.trans (hb3.mono HB2.out.size)); (obtain ⟨e0, e1, e2, e3⟩ := HD.out w3 HB3.out); clear hpp hth hb3)))
      have HB4 : Hid (Below w.heap.size w w3) := HB.out.2.trans (HB3.out.mono HB.out.2.size)
      rename_i hHeld0
      clear hHeld0 d0 d1 d2 d3 e0 e1 e2 e3 y0 y1 y2 z0 z1 z2
      cases ro with
      | none =>
        simp only [Option.isSome_none]
        go_wp2
        go_ret2
        exact ThPost.none (by first | exact HNo.out rfl | exact HNo.out trivial) _ _ _ rfl HB4.out
      | some m =>
        simp only [Option.isSome_some]
        obtain ⟨hn3, hrow3⟩ := HT3.out.1 m rfl
        have hcm : c q = m := HKq.out
        have hrow4 : ThRow (w.heap.size + 1) w3 (.slice ao3 n3 cap3) (flatX (c q) (p ++ [(q : Int)]) false) := by
          rw [hcm]
          refine hrow3.base ?_
          have h1 := HB.out.1.size
          rw [World.size_alloc] at h1
          have := HB2.out.size
          omega
        have HR4 := hide hrow4
        have HR0 : Hid (ThRow (w.heap.size + 1) w3 u16 (preF c p q)) := HRow.out.keep HB3.out
        have HPs : Hid (preF c p (q + 1) = preF c p q ++ flatX (c q) (p ++ [(q : Int)]) false) := preF_succ c p q
        have HLe : Hid ((preF c p q).length + (flatX (c q) (p ++ [(q : Int)]) false).length ≤ 1000000) := by
          have h := HP2.out
          rw [HPs.out, List.length_append] at h
          show _ ≤ _
          omega
        have HCs := hide (cntF_succ c q)
        have HBs : Hid (w.heap.size + 1 ≤ w3.heap.size ∧ Below (w.alloc (.cells #[.bool true, .string ⟨#[]⟩, .slice (some ⟨g, 0, none⟩) 17 lc] 164)).heap.size (w.alloc (.cells #[.bool true, .string ⟨#[]⟩, .slice (some ⟨g, 0, none⟩) 17 lc] 164)) w3) := by
          have h1 := HB.out.1.trans (HB3.out.mono HB.out.1.size)
          exact ⟨by have := h1.size; rw [World.size_alloc] at this; exact this, h1⟩
        have HA2 : Hid (∀ j, j < q + 1 → (refF (parseF f) (ts.getD j eB) (p.length + 1)).isSome = true) := fun j hj => by
          by_cases e : j = q
          · rw [e, HRo.out]; rfl
          · exact HA.out j (by omega)
        cases hnil : m.isNil with
        | true =>
          have h0 : n3 = 0 := by
            rw [hn3]
            cases m with
            | nil => rfl
            | hash _ => cases hnil
            | leaf _ _ => cases hnil
            | ext _ _ => cases hnil
            | br _ _ => cases hnil
          subst h0
          have HCz : Hid (cntF c (q + 1) = cntF c q) := by show _ = _; rw [HCs.out, hcm, if_pos hnil]; rfl
          clear hn3 hrow3 hrow4 hnil hcm
          go_wp2_with ((at_builtin; go_must (refine wpList_append_things rfl (.tmp 130) (.tmp 131) rfl (w.heap.size + 1) (w.heap.size + 1) _ _ rfl HR0.out _ _ rfl HR4.out HLe.out HBs.out.1 ?_); intro v4 w4 hr4 hg4 hk4 hkp4; go_must (have HX4 := hide (And.intro hr4 (And.intro hg4 hk4))); clear hr4 hg4 hk4 hkp4))
          go_roundw
          case rel => exact ⟨q + 1, by omega, by go_num, by rw [HCz.out], by rw [HPs.out]; exact HX4.out.1, HBs.out.2.grown HX4.out.2.1 HBs.out.2.size (fun k hk => by rw [World.size_alloc]; exact HX4.out.2.2 k hk), HA2.out⟩
          case measure => simp [intOf]; omega
        | false =>
          have hpos : 0 < n3 := by
            rw [hn3]
            exact List.length_pos_iff.2 (flat_ne m (p ++ [(q : Int)]) false (by rw [← hcm]; exact HW3.out) hnil)
          have j3 : (0 : Int) < (n3 : Int) := by omega
          have HCz : Hid (cntF c (q + 1) = cntF c q + 1) := by show _ = _; rw [HCs.out, hcm, hnil]; rfl
          clear hn3 hrow3 hrow4 hnil hcm hpos
          go_wp2_with ((at_builtin; go_must (refine wpList_append_things rfl (.tmp 130) (.tmp 131) rfl (w.heap.size + 1) (w.heap.size + 1) _ _ rfl HR0.out _ _ rfl HR4.out HLe.out HBs.out.1 ?_); intro v4 w4 hr4 hg4 hk4 hkp4; go_must (have HX4 := hide (And.intro hr4 (And.intro hg4 hk4))); clear hr4 hg4 hk4 hkp4))
          go_roundw
          case rel => exact ⟨q + 1, by omega, by go_num, by rw [HCz.out]; go_num, by rw [HPs.out]; exact HX4.out.1, HBs.out.2.grown HX4.out.2.1 HBs.out.2.size (fun k hk => by rw [World.size_alloc]; exact HX4.out.2.2 k hk), HA2.out⟩
          case measure => simp [intOf]; omega
    · obtain rfl : q = 16 := by omega
      obtain ⟨l0, b0, o0, n0, k0, hit, z0, z1, z2⟩ := HC.out wr HB.out.2 16 (by omega)
      have z0 : wr.cell? ⟨g, 48, none⟩ = some (.bool l0) := z0
      have z1 : wr.cell? ⟨g, 49, none⟩ = some (.string b0) := z1
      have z2 : wr.cell? ⟨g, 50, none⟩ = some (.slice o0 n0 k0) := z2
      have HBR : Hid (ob = if 128 < p.length + 1 then none else (match pval (ts.getD 16 eB) p.length with | none => none | some v => if cntX (kidsF (parseF f) ts p.length) v ≤ 1 then none else some (.br (kidsF (parseF f) ts p.length) v))) := by
        show _ = _
        rw [← HOb.out]
        have hf16 : (List.range 16).all (fun i => (refF (parseF f) (ts.getD i eB) (p.length + 1)).isSome) = true := by
          rw [List.all_eq_true]; intro j hj; exact HA.out j (List.mem_range.1 hj)
        unfold branchF
        rw [if_pos hf16]
        split
        · rfl
        · cases pval (ts.getD 16 eB) p.length <;> rfl
      have hp16 := HPL.out 16 (by omega)
      have hcl := cntF_le (kidsF (parseF f) ts p.length) 16
      have hcx : ∀ v : ByteArray, cntX (kidsF (parseF f) ts p.length) v = (if v.size = 0 then 0 else 1) + cntF (kidsF (parseF f) ts p.length) 16 := fun v => rfl
      have hfx : ∀ (v : ByteArray) (u : Bool), flatX (.br (kidsF (parseF f) ts p.length) v) p u = (if v.size = 0 then [] else [⟨p, v, eB, false⟩]) ++ preF (kidsF (parseF f) ts p.length) p 16 := fun v u => by simp only [flatX]; rfl
      generalize kidsF (parseF f) ts p.length = c at *
      obtain ⟨aw, cw, hsw⟩ := HRow.out.shape
      have htx := hit.txt
      generalize ts.getD 16 eB = t16 at *
      generalize cntF c 16 = N at *
      generalize hpre : preF c p 16 = PR at *
      generalize hpr : PR.length = pn at *
      have HPr := hide (And.intro hpre hpr)
      clear hit hpre hpr
      have hnone : valOk l0 b0 p.length = false → ¬ (l0 = false ∧ b0.size = 0) → ob = none := fun h h0 => by
        rw [HBR.out]
        split
        · rfl
        · rename_i hd
          rcases htx with ⟨rfl, h1⟩ | ⟨rfl, rfl, h1⟩
          · have : pval t16 p.length = none := by
              unfold pval
              rw [h1]
              simp only
              rw [if_neg]
              rintro ⟨h2, h3⟩
              unfold valOk at h
              rw [decide_eq_false_iff_not] at h
              apply h
              have h4 : b0.size ≠ 0 := fun e => h0 ⟨rfl, e⟩
              exact ⟨rfl, by omega, h2, h3.resolve_left h4, by omega⟩
            rw [this]
          · have : pval t16 p.length = none := by unfold pval; rw [h1]
            rw [this]
      have HNone := hide hnone
      have HHd : Hid (∀ v, pval t16 p.length = some v → ob = if p.length < 128 ∧ 2 ≤ (if v.size = 0 then 0 else 1) + N then some (.br c v) else none) := fun v hv => by
        rw [HBR.out, hv]
        simp only
        rw [hcx]
        by_cases h1 : p.length < 128
        · rw [if_neg (by omega)]
          by_cases h2 : 2 ≤ (if v.size = 0 then 0 else 1) + N
          · rw [if_neg (by omega), if_pos ⟨h1, h2⟩]
          · rw [if_pos (by omega), if_neg (fun h => h2 h.2)]
        · rw [if_pos (by omega), if_neg (fun h => h1 h.1)]
      have HFx := hide hfx
      have HPn := hide hp16
      have HTx := hide htx
      subst hsw
      clear hnone hcx hfx hp16 htx hlt hq
      by_cases hA : l0 = false ∧ b0.size = 0
      · obtain ⟨rfl, hb0⟩ := hA
        obtain rfl := empty_of_size hb0
        have hv : pval t16 p.length = some ⟨#[]⟩ := by
          rcases HTx.out with ⟨_, h1⟩ | ⟨h, _⟩
          · unfold pval; rw [h1]; rfl
          · cases h
        have hO := HHd.out _ hv
        rw [if_pos (show (⟨#[]⟩ : ByteArray).size = 0 from rfl), Nat.zero_add] at hO
        have HO := hide hO
        have HFl : Hid (flatX (.br c ⟨#[]⟩) p under = PR) := by show _ = _; rw [HFx.out]; rfl
        have HFin : Hid (ThRow w.heap.size wr (.slice aw pn cw) (flatX (.br c ⟨#[]⟩) p under)) := by
          show ThRow _ _ _ _
          rw [HFl.out]
          exact HRow.out.base (by omega)
        clear hO hv hb0
        by_cases h2 : 2 ≤ N
        · have j1 : (2 : Int) ≤ (N : Int) := by omega
          by_cases h1 : p.length < 128
          · have j2 : (p.length : Int) < 128 := by omega
            have HO2 : Hid (ob = some (.br c ⟨#[]⟩)) := by show _ = _; rw [HO.out, if_pos ⟨h1, h2⟩]
            clear h1 h2
            go_wp2
            go_ret2
            exact ThPost.some HO2.out (.slice aw pn cw) (by simp; try omega) HFin.out HB.out.2
          · have j2 : 128 ≤ (p.length : Int) := by omega
            have HO2 : Hid (ob = none) := by show _ = _; rw [HO.out, if_neg (fun h => h1 h.1)]
            clear h1 h2
            go_wp2
            go_ret2
            exact ThPost.none HO2.out aw pn cw (by simp; try omega) HB.out.2
        · have j1 : (N : Int) < 2 := by omega
          have HO2 : Hid (ob = none) := by show _ = _; rw [HO.out, if_neg (fun h => h2 h.2)]
          clear h2
          go_wp2
          go_ret2
          exact ThPost.none HO2.out aw pn cw (by simp; try omega) HB.out.2
      · have HVa := hide (fun W => value_any l0 b0 o0 n0 k0 ao p.length cap W (by omega))
        cases hok : valOk l0 b0 p.length with
        | false =>
          have HO2 : Hid (ob = none) := HNone.out hok hA
          simp only [hok] at HVa
          cases l0 with
          | true =>
            clear hA hok
            go_wp2_with fail
            refine (HVa.out _).mono ?_
            rintro e w3 ⟨rfl, hb3⟩
            have HB3 : Hid (Below w.heap.size w w3) := HB.out.2.trans (hb3.mono HB.out.2.size)
            clear hb3
            go_wp2
            go_ret2
            exact ThPost.none HO2.out _ _ _ rfl (HB3.out.alloc HB3.out.size _)
          | false =>
            have hne : b0.toList.isEmpty = false := by
              cases hs : b0.toList with
              | nil =>
                exfalso; apply hA
                have : b0 = ⟨#[]⟩ := toList_inj (by rw [hs]; simp [ByteArray.toList_eq])
                rw [this]; exact ⟨rfl, rfl⟩
              | cons _ _ => rfl
            clear hA hok
            go_wp2_with fail
            refine (HVa.out _).mono ?_
            rintro e w3 ⟨rfl, hb3⟩
            have HB3 : Hid (Below w.heap.size w w3) := HB.out.2.trans (hb3.mono HB.out.2.size)
            clear hb3
            go_wp2
            go_ret2
            exact ThPost.none HO2.out _ _ _ rfl (HB3.out.alloc HB3.out.size _)
        | true =>
          have hok' := hok
          unfold valOk at hok'
          rw [decide_eq_true_eq] at hok'
          obtain ⟨rfl, hz1, hz2, hz3, hz4⟩ := hok'
          have hne : b0.toList.isEmpty = false := by
            cases hs : b0.toList with
            | nil =>
              exfalso; apply hA
              have : b0 = ⟨#[]⟩ := toList_inj (by rw [hs]; simp [ByteArray.toList_eq])
              rw [this]; exact ⟨rfl, rfl⟩
            | cons _ _ => rfl
          simp only [hok] at HVa
          have hv : pval t16 p.length = some b0 := by
            rcases HTx.out with ⟨_, h1⟩ | ⟨h, _⟩
            · unfold pval; rw [h1]; simp only; rw [if_pos ⟨hz2, .inr hz3⟩]
            · cases h
          have hO := HHd.out _ hv
          rw [if_neg (show ¬ b0.size = 0 by omega)] at hO
          have HO := hide hO
          have HFl : Hid (flatX (.br c b0) p under = [⟨p, b0, eB, false⟩] ++ PR) := by show _ = _; rw [HFx.out, if_neg (show ¬ b0.size = 0 by omega)]
          clear hO hv hA hok hz1 hz2 hz3
          have HB5 : Hid (∀ W, Below wr.heap.size wr W → Below w.heap.size w W) := fun W hW => HB.out.2.trans (hW.mono HB.out.2.size)
          go_wp2_with fail
          refine (HVa.out _).mono ?_
          rintro e w3 ⟨rfl, hb3⟩
          have HB3 := hide hb3
          clear hb3
          have HX : Hid (∀ tb, ThRow (w3.heap.size + 1) ((w3.alloc tb).alloc (.cells #[.slice ao p.length cap, .string b0, .string ⟨#[]⟩, .bool false] 118)) (.slice (some ⟨w3.heap.size + 1, 0, none⟩) 1 1) [⟨p, b0, eB, false⟩]) := fun tb => by
            have h := ThRow.one (w := w3.alloc tb) (ao := ao) (cap := cap) (x := ⟨p, b0, eB, false⟩) (HP.out.keep (KpI.of_below (HB5.out _ (HB3.out.alloc HB3.out.size tb))))
            simp only [World.size_alloc] at h
            exact h
          have HY : Hid (∀ tb o, ThRow (w.heap.size + 1) ((w3.alloc tb).alloc o) (.slice aw pn cw) PR) := fun tb o => HRow.out.keep ((HB3.out.alloc HB3.out.size tb).alloc (by have := HB3.out.size; simp; omega) o)
          have HZ : Hid (∀ tb o W, (World.grownBy ((w3.alloc tb).alloc o) W (Value.ownBlock (.slice (some ⟨w3.heap.size + 1, 0, none⟩) 1 1))) → Below w.heap.size w W) := fun tb o W hW => by
            have h := HB5.out _ ((HB3.out.alloc HB3.out.size tb).alloc (by have := HB3.out.size; simp; omega) o)
            refine h.grown hW h.size (fun k hk => ?_)
            have e : w3.heap.size + 1 = k := by simpa [Value.ownBlock] using hk
            have := HB.out.2.size
            have := HB3.out.size
            omega
          have HRw : Hid (∀ W v, ThRow (w3.heap.size + 1) W v ([⟨p, b0, eB, false⟩] ++ PR) → ThRow w.heap.size W v (flatX (.br c b0) p under)) := fun W v h => by
            rw [HFl.out]
            refine h.base ?_
            have := HB.out.2.size
            have := HB3.out.size
            omega
          by_cases h2 : 2 ≤ 1 + N
          · have j1 : (2 : Int) ≤ (N : Int) + 1 := by omega
            by_cases h1 : p.length < 128
            · have j2 : (p.length : Int) < 128 := by omega
              have HO2 : Hid (ob = some (.br c b0)) := by show _ = _; rw [HO.out, if_pos ⟨h1, h2⟩]
              clear h1 h2
              go_wp2_with ((at_builtin; go_must (refine wpList_append_things rfl (.tmp 160) (.tmp 161) rfl (w3.heap.size + 1) (w.heap.size + 1) _ _ rfl (HX.out _) _ _ rfl (HY.out _ _) (by have := HPn.out; have := HPr.out.2; simp only [List.length_cons, List.length_nil]; omega) (by simp) ?_); intro v4 w4 hr4 hg4 hk4 hkp4; go_must (have HX4 := hide (And.intro hr4 (HZ.out _ _ _ hg4))); obtain ⟨ao4, cap4, rfl⟩ := hr4.shape; clear hr4 hg4 hk4 hkp4))
              go_ret2
              exact ThPost.some HO2.out (.slice ao4 ([(⟨p, b0, eB, false⟩ : Th)] ++ PR).length cap4) (by first | rfl | (simp; done) | (simp; omega)) (HRw.out _ _ HX4.out.1) HX4.out.2
            · have j2 : 128 ≤ (p.length : Int) := by omega
              have HO2 : Hid (ob = none) := by show _ = _; rw [HO.out, if_neg (fun h => h1 h.1)]
              clear h1 h2
              go_wp2_with ((at_builtin; go_must (refine wpList_append_things rfl (.tmp 160) (.tmp 161) rfl (w3.heap.size + 1) (w.heap.size + 1) _ _ rfl (HX.out _) _ _ rfl (HY.out _ _) (by have := HPn.out; have := HPr.out.2; simp only [List.length_cons, List.length_nil]; omega) (by simp) ?_); intro v4 w4 hr4 hg4 hk4 hkp4; go_must (have HX4 := hide (And.intro hr4 (HZ.out _ _ _ hg4))); obtain ⟨ao4, cap4, rfl⟩ := hr4.shape; clear hr4 hg4 hk4 hkp4))
              go_ret2
              exact ThPost.none HO2.out ao4 ([(⟨p, b0, eB, false⟩ : Th)] ++ PR).length cap4 (by first | rfl | (simp; done) | (simp; omega)) HX4.out.2
          · have j1 : (N : Int) + 1 < 2 := by omega
            have HO2 : Hid (ob = none) := by show _ = _; rw [HO.out, if_neg (fun h => h2 h.2)]
            clear h2
            go_wp2_with ((at_builtin; go_must (refine wpList_append_things rfl (.tmp 160) (.tmp 161) rfl (w3.heap.size + 1) (w.heap.size + 1) _ _ rfl (HX.out _) _ _ rfl (HY.out _ _) (by have := HPn.out; have := HPr.out.2; simp only [List.length_cons, List.length_nil]; omega) (by simp) ?_); intro v4 w4 hr4 hg4 hk4 hkp4; go_must (have HX4 := hide (And.intro hr4 (HZ.out _ _ _ hg4))); obtain ⟨ao4, cap4, rfl⟩ := hr4.shape; clear hr4 hg4 hk4 hkp4))
            go_ret2
            exact ThPost.none HO2.out ao4 ([(⟨p, b0, eB, false⟩ : Th)] ++ PR).length cap4 (by first | rfl | (simp; done) | (simp; omega)) HX4.out.2
end Go.Proofs.YthdjmldddjljfaaGreatDoor.V
namespace Go.Proofs.YthdjmldddjljfaaGreatDoor.V
open Go.RowKit
attribute [local go_sem ↓] Go.wp_at_zero Go.wp_at_succ

theorem things_zero (f : Nat) : ThingsOk 0 f := by
  intro c0 c1 c2 t ao cap p under w hit hp ht hpl hch
  obtain ⟨b, h1, h2⟩ := hit
  simp only [List.cons.injEq, and_true] at h2
  obtain ⟨rfl, rfl, rfl⟩ := h2
  exact things_text f t b ao cap p under w h1
theorem things_step (r f : Nat) (hr : r ≤ 100) (ih : ReferOk r f) : ThingsOk (r + 1) f := by
  intro c0 c1 c2 t ao cap p under w hit hp ht hpl hch
  rcases hit with ⟨b, h1, h2⟩ | ⟨v, css, ts, h1, h2, ho, hi⟩
  · simp only [List.cons.injEq, and_true] at h2
    obtain ⟨rfl, rfl, rfl⟩ := h2
    exact things_text f t b ao cap p under w h1
  · simp only [List.cons.injEq, and_true] at h2
    obtain ⟨rfl, rfl, rfl⟩ := h2
    by_cases h17 : ts.length = 17
    · have he : thB (parseF (f + 1) t p.length) under = branchF (parseF f) ts p.length := by
        rw [parseF, h1]
        simp only
        rw [if_neg (by omega), if_pos h17]
        cases hb : branchF (parseF f) ts p.length with
        | none => rfl
        | some n =>
          have : n.isBr = true := by
            unfold branchF at hb
            split at hb
            · cases hb
            · split at hb
              · split at hb
                · cases hb
                · split at hb
                  · cases hb
                  · injection hb with hb; subst hb; rfl
              · cases hb
          simp [thB, this]
      rw [he]
      exact things_br r f ih t ts _ css ao cap p under w h1 ho hi h17 hp ht hpl (fun u hu => hch ts u h1 hu) _ rfl
    · by_cases h2 : ts.length = 2 ∧ under = false
      · obtain ⟨h2, rfl⟩ := h2
        exact things_two r f hr ih t ts _ css ao cap p w h1 ho hi h2 hp ht (by omega) (fun u hu => hch ts u h1 hu)
      · obtain ⟨lo, lc, rfl⟩ : ∃ ao lc, c2 = .slice ao css.length lc := by
          rcases ho.2 with ⟨rfl, h0⟩ | ⟨g, c, cur, rfl, _⟩
          · exact ⟨none, 0, by rw [h0]⟩
          · exact ⟨_, _, rfl⟩
        rw [hi.len]
        exact things_odd f t ts lo lc ao cap p under w h1 ⟨h17, by
          by_cases h3 : ts.length = 2
          · exact .inr (by cases under with | true => rfl | false => exact absurd ⟨h3, rfl⟩ h2)
          · exact .inl h3⟩
theorem things_all : ∀ (r f : Nat), r ≤ 100 → ThingsOk r f ∧ ReferOk r f
  | 0, f, _ => ⟨things_zero f, refer_step 0 f (fun r' f' h _ => by cases h)⟩
  | r + 1, f, hr => by
    have ht : ∀ f, ThingsOk (r + 1) f := fun f => things_step r f (by omega) (things_all r f (by omega)).2
    exact ⟨ht f, refer_step (r + 1) f (fun _ f' _ _ => ht f')⟩
/-- the things of a whole text -/
theorem things_top (c0 c1 c2 : Value) (t : ByteArray) (ao : Option Addr) (cap : Nat) (p : List Int) (under : Bool) (w : World) (hit : ItB 8 w [c0, c1, c2] t) (hp : PSl w ao cap p) (ht : t.size ≤ 6000) (hpl : p.length ≤ 200) :
    Calls Tryz.prog 110 #[.agg #[c0, c1, c2], .slice ao p.length cap, .bool under] w fun e w' => ThPost (thB (parseF 33 t p.length) under) p under w e w' :=
  (things_all 8 32 (by omega)).1 c0 c1 c2 t ao cap p under w hit hp ht (by omega) (fun _ _ _ _ h => h)
end Go.Proofs.YthdjmldddjljfaaGreatDoor.V
