/-
  OUR OWN: MaG MaH MaI MaJ.
-/
import Derived.Test.YtgepjjebjhidiaaGreatDoorG35
import Derived.Test.YtgepjjebjhidiaaGreatDoorG31
namespace Go.Proofs.YtgepjjebjhidiaaGreatDoor
open Go.RowKit

theorem less_nil (k : List UInt8) : Op.bytesLess k [] = false := by cases k <;> rfl
theorem less_ff : ∀ (N : Nat) (k rest : List UInt8), k.length ≤ N → rest ≠ [] → Op.bytesLess k (List.replicate N 255 ++ rest) = true
  | 0, k, rest, h, hr => by
    obtain rfl : k = [] := List.length_eq_zero_iff.1 (by omega)
    cases rest with
    | nil => exact absurd rfl hr
    | cons _ _ => rfl
  | N + 1, [], rest, _, _ => by
    rw [List.replicate_succ, List.cons_append]; rfl
  | N + 1, d :: k, rest, h, hr => by
    have ih := less_ff N k rest (by simpa using h) hr
    rw [List.replicate_succ, List.cons_append, Op.bytesLess, ih]
    have hd := d.toNat_lt
    by_cases e : d = 255
    · simp [e]
    · have h2 : d < 255 := by
        rw [UInt8.lt_iff_toNat_lt]
        have h3 : d.toNat ≠ 255 := fun h => e (UInt8.toNat_inj.1 h)
        show d.toNat < 255
        omega
      simp [h2]
theorem less_next (c : UInt8) (hc : c.toNat < 255) (N : Nat) (rest : List UInt8) (hr : rest ≠ []) : ∀ (a k : List UInt8), k.length ≤ a.length + 1 + N →
    Op.bytesLess k (a ++ c :: (List.replicate N 255 ++ rest)) = Op.bytesLess k (a ++ [UInt8.ofNat (c.toNat + 1)])
  | [], [], _ => rfl
  | [], d :: k, h => by
    have h1 := less_ff N k rest (by simp at h; omega) hr
    have e1 : (UInt8.ofNat (c.toNat + 1)).toNat = c.toNat + 1 := by rw [UInt8.toNat_ofNat']; omega
    simp only [List.nil_append, Op.bytesLess, h1, less_nil, Bool.and_true, Bool.and_false, Bool.or_false]
    rw [Bool.eq_iff_iff]
    simp only [Bool.or_eq_true, decide_eq_true_eq, beq_iff_eq, UInt8.lt_iff_toNat_lt, e1]
    constructor
    · rintro (h | rfl) <;> omega
    · intro h
      by_cases h2 : d.toNat < c.toNat
      · exact .inl h2
      · exact .inr (UInt8.toNat_inj.1 (by omega))
  | x :: a, [], _ => rfl
  | x :: a, d :: k, h => by
    have ih := less_next c hc N rest hr a k (by simp at h ⊢; omega)
    simp only [List.cons_append, Op.bytesLess, ih]
theorem cutE_ff (s : ByteArray) : ∀ (e j : Nat), cutE s e ≤ j → j < e → byteN s j = 255
  | 0, j, _, h => by omega
  | e + 1, j, h1, h2 => by
    unfold cutE at h1
    split at h1
    · by_cases hj : j = e
      · subst hj; assumption
      · exact cutE_ff s e j h1 (by omega)
    · omega
theorem cutE_not (s : ByteArray) : ∀ (e : Nat), cutE s e ≠ 0 → byteN s (cutE s e - 1) ≠ 255
  | 0, h => absurd rfl h
  | e + 1, h => by
    unfold cutE at h ⊢
    split
    · rename_i h2
      rw [if_pos h2] at h
      exact cutE_not s e h
    · assumption
theorem drop_ff (s : ByteArray) (h64 : 64 < s.size) (e : Nat) (he : e ≤ 64) (hf : ∀ j, e ≤ j → j < 64 → byteN s j = 255) : s.data.toList.drop e = List.replicate (64 - e) 255 ++ s.data.toList.drop 64 := by
  have hlen : s.data.toList.length = s.size := by rw [Array.length_toList]; rfl
  conv => lhs; rw [← List.take_append_drop (64 - e) (s.data.toList.drop e), List.drop_drop, show e + (64 - e) = 64 from by omega]
  congr 1
  rw [List.eq_replicate_iff]
  refine ⟨by rw [List.length_take, List.length_drop, hlen]; omega, fun b hb => ?_⟩
  obtain ⟨j, hj, rfl⟩ := List.getElem_of_mem hb
  have hj2 : j < 64 - e := by
    rw [List.length_take] at hj; omega
  have h255 := hf (e + j) (by omega) (by omega)
  unfold byteN at h255
  rw [List.getElem_take, List.getElem_drop]
  have hl : e + j < s.data.toList.length := by rw [hlen]; omega
  rw [List.getD_eq_getElem?_getD, List.getElem?_eq_getElem hl] at h255
  exact UInt8.toNat_inj.1 h255
theorem first_some {s f k : ByteArray} (h : firstB s = some f) (hk : k.size ≤ 64) : Op.bytesLess k.toList s.toList = Op.bytesLess k.toList f.toList := by
  unfold firstB at h
  split at h
  · injection h with h; rw [h]
  · rename_i h64
    split at h
    · cases h
    · rename_i hc
      injection h with h
      subst h
      have hle := cutE_le s 64
      have hlen : s.data.toList.length = s.size := by rw [Array.length_toList]; rfl
      have hd := drop_ff s (by omega) (cutE s 64) hle (fun j h1 h2 => cutE_ff s 64 j h1 h2)
      have hne := cutE_not s 64 hc
      generalize cutE s 64 = e at *
      have hl : e - 1 < s.data.toList.length := by rw [hlen]; omega
      have hb : byteN s (e - 1) = (s.data.toList[e - 1]).toNat := by unfold byteN; rw [List.getD_eq_getElem?_getD, List.getElem?_eq_getElem hl]; rfl
      have hsplit : s.data.toList = s.data.toList.take (e - 1) ++ s.data.toList[e - 1] :: (List.replicate (64 - e) 255 ++ s.data.toList.drop 64) := by
        rw [← hd]
        conv => lhs; rw [← List.take_append_drop (e - 1) s.data.toList, List.drop_eq_getElem_cons hl, show e - 1 + 1 = e from by omega]
      have hblt := byteN_lt s (e - 1)
      have hkl : k.toList.length ≤ 64 := by rw [ByteArray.toList_eq, Array.length_toList]; exact hk
      have hnx := less_next (s.data.toList[e - 1]) (by rw [← hb]; omega) (64 - e) (s.data.toList.drop 64) (fun e0' => by
        have := congrArg List.length e0'
        rw [List.length_drop, hlen] at this
        simp at this
        omega) (s.data.toList.take (e - 1)) k.toList (by rw [List.length_take]; omega)
      rw [ByteArray.toList_eq s, hsplit, hnx]
      congr 1
      rw [ByteArray.toList_eq, ByteArray.data_append, Array.toList_append, hb]
      simp [strOfNums, ByteArray.data_extract]
theorem first_none {s k : ByteArray} (h : firstB s = none) (hk : k.size ≤ 64) : Op.bytesLess k.toList s.toList = true := by
  unfold firstB at h
  split at h
  · cases h
  · rename_i h64
    split at h
    · rename_i hc
      have hlen : s.data.toList.length = s.size := by rw [Array.length_toList]; rfl
      have hd := drop_ff s (by omega) 0 (by omega) (fun j _ h2 => cutE_ff s 64 j (by omega) h2)
      rw [ByteArray.toList_eq s, ← List.drop_zero (l := s.data.toList), hd]
      refine less_ff 64 _ _ (by rw [ByteArray.toList_eq, Array.length_toList]; exact hk) (fun e0' => ?_)
      have := congrArg List.length e0'
      rw [List.length_drop, hlen] at this
      simp at this
      omega
    · cases h
theorem Holds.each {n : Nd} {m : List Pr} (h : Holds n m) (hw : n.WF) (s : ByteArray) (most : Int) : eachL n s most = expectL m s most := by
  unfold eachL expectL
  cases hf : firstB s with
  | none =>
    have e : m.filter (okK s) = [] := by
      rw [List.filter_eq_nil_iff]
      intro p hp
      unfold okK
      rw [first_none hf (h.map.bound p hp).1]
      simp
    rw [e]; simp
  | some f =>
    dsimp only
    have e : m.filter (okK f) = m.filter (okK s) := by
      apply List.filter_congr
      intro p hp
      unfold okK
      rw [first_some hf (h.map.bound p hp).1]
    rw [h.flat hw, tell_map, e]
    split
    · rw [show (min most 100).toNat = 0 from by omega]; simp
    · rfl
end Go.Proofs.YtgepjjebjhidiaaGreatDoor
namespace Go.Proofs.YtgepjjebjhidiaaGreatDoor
open Go.RowKit

abbrev lessB (a b : ByteArray) : Prop := Op.bytesLess a.toList b.toList = true
theorem lessB_trans {a b c : ByteArray} (h1 : lessB a b) (h2 : lessB b c) : lessB a c := (less_plt _ _).2 (plt_trans ((less_plt _ _).1 h1) ((less_plt _ _).1 h2))
theorem lessB_irrefl (a : ByteArray) : ¬ lessB a a := fun h => plt_irrefl _ ((less_plt _ _).1 h)
theorem lessB_total {a b : ByteArray} (h1 : ¬ lessB a b) (h2 : ¬ a = b) : lessB b a := by
  rcases plt_total (pathB a.toList) (pathB b.toList) with h | h | h
  · exact absurd ((less_plt _ _).2 h) h1
  · exact absurd (str_inj (pathB_inj _ _ h)) h2
  · exact (less_plt _ _).2 h
def oneL (p : Pr) : List Pr := if p.2.size = 0 then [] else [p]
/-- laid, step by step -/
def insL : List Pr → Pr → List Pr
  | [], p => oneL p
  | q :: m, p => if Op.bytesLess q.1.toList p.1.toList = true then q :: insL m p else oneL p ++ (if q.1 = p.1 then m else q :: m)
theorem laid_ins : ∀ (m : List Pr) (p : Pr), laidL m p = insL m p
  | [], p => by simp [laidL, insL, atL, endL, oneL]
  | q :: m, p => by
    have ih := laid_ins m p
    unfold insL
    by_cases h : Op.bytesLess q.1.toList p.1.toList = true
    · rw [if_pos h, ← ih]
      have e1 : atL (q :: m) p.1 = atL m p.1 + 1 := by rw [atL, if_pos h]
      have e2 : endL (q :: m) p.1 = endL m p.1 + 1 := by
        unfold endL
        rw [e1]
        simp only [List.length_cons, Nat.add_lt_add_iff_right, List.getD_cons_succ]
        split <;> rfl
      unfold laidL
      rw [e1, e2]
      simp
    · rw [if_neg h]
      have e1 : atL (q :: m) p.1 = 0 := by rw [atL, if_neg h]
      unfold laidL endL
      rw [e1]
      by_cases hq : q.1 = p.1
      · simp [hq, oneL]
      · simp [hq, oneL]
theorem ins_mem : ∀ (m : List Pr) (p x : Pr), x ∈ insL m p → (x = p ∧ p.2.size ≠ 0) ∨ x ∈ m
  | [], p, x, h => by
    unfold insL oneL at h
    split at h
    · cases h
    · exact .inl ⟨by simpa using h, by assumption⟩
  | q :: m, p, x, h => by
    unfold insL at h
    split at h
    · rcases List.mem_cons.1 h with rfl | h
      · exact .inr (List.mem_cons_self ..)
      · exact (ins_mem m p x h).imp id (List.mem_cons_of_mem _)
    · rcases List.mem_append.1 h with h | h
      · unfold oneL at h
        split at h
        · cases h
        · exact .inl ⟨by simpa using h, by assumption⟩
      · split at h
        · exact .inr (List.mem_cons_of_mem _ h)
        · exact .inr h
abbrev Rise (m : List Pr) : Prop := m.Pairwise (fun a b => Op.bytesLess a.1.toList b.1.toList = true)
theorem ins_rise : ∀ (m : List Pr) (p : Pr), Rise m → Rise (insL m p)
  | [], p, _ => by
    unfold insL oneL
    split
    · exact List.Pairwise.nil
    · exact List.pairwise_singleton _ _
  | q :: m, p, h => by
    obtain ⟨h1, h2⟩ := List.pairwise_cons.1 h
    unfold insL
    by_cases hlt : Op.bytesLess q.1.toList p.1.toList = true
    · rw [if_pos hlt]
      refine List.pairwise_cons.2 ⟨fun x hx => ?_, ins_rise m p h2⟩
      rcases ins_mem m p x hx with ⟨rfl, _⟩ | hx
      · exact hlt
      · exact h1 x hx
    · rw [if_neg hlt]
      have hrest : ∀ (L : List Pr), Rise L → (∀ x ∈ L, lessB p.1 x.1) → Rise (oneL p ++ L) := fun L hL hx => by
        unfold oneL
        split
        · exact hL
        · exact List.pairwise_cons.2 ⟨hx, hL⟩
      by_cases hq : q.1 = p.1
      · rw [if_pos hq]
        exact hrest m h2 (fun x hx => by have := h1 x hx; rw [hq] at this; exact this)
      · rw [if_neg hq]
        have hpq := lessB_total hlt hq
        refine hrest (q :: m) h (fun x hx => ?_)
        rcases List.mem_cons.1 hx with rfl | hx
        · exact hpq
        · exact lessB_trans hpq (h1 x hx)
theorem value_above : ∀ (m : List Pr) (k : ByteArray), (∀ x ∈ m, lessB k x.1) → valueL m k = e0
  | [], _, _ => rfl
  | q :: m, k, h => by
    have hq : ¬ q.1 = k := fun e => by
      have := h q (List.mem_cons_self ..)
      rw [e] at this
      exact lessB_irrefl k this
    simp only [valueL, hq, if_false]
    exact value_above m k (fun x hx => h x (List.mem_cons_of_mem _ hx))
theorem value_one (p : Pr) (L : List Pr) (k : ByteArray) (hL : p.1 = k → valueL L k = e0) : valueL (oneL p ++ L) k = if p.1 = k then p.2 else valueL L k := by
  unfold oneL
  split
  · rename_i h0
    rw [List.nil_append]
    by_cases e : p.1 = k
    · rw [if_pos e, hL e, e0_of h0]
    · rw [if_neg e]
  · show valueL (p :: L) k = _
    rfl
theorem ins_value : ∀ (m : List Pr) (p : Pr) (k : ByteArray), Rise m → valueL (insL m p) k = if p.1 = k then p.2 else valueL m k
  | [], p, k, _ => by
    have := value_one p [] k (fun _ => rfl)
    rw [List.append_nil] at this
    exact this
  | q :: m, p, k, h => by
    obtain ⟨h1, h2⟩ := List.pairwise_cons.1 h
    unfold insL
    by_cases hlt : Op.bytesLess q.1.toList p.1.toList = true
    · rw [if_pos hlt]
      have ih := ins_value m p k h2
      by_cases e : q.1 = k
      · have hne : ¬ p.1 = k := fun e2 => by
          rw [e, e2] at hlt
          exact lessB_irrefl k hlt
        simp [valueL, e, hne]
      · simp only [valueL, e, if_false, ih]
    · rw [if_neg hlt]
      by_cases hq : q.1 = p.1
      · rw [if_pos hq, value_one p m k (fun e => value_above m k (fun x hx => by have := h1 x hx; rw [hq, e] at this; exact this))]
        by_cases e : p.1 = k
        · rw [if_pos e, if_pos e]
        · have e2 : ¬ q.1 = k := fun e3 => e (hq.symm.trans e3)
          rw [if_neg e, if_neg e]
          simp [valueL, e2]
      · have hpq := lessB_total hlt hq
        rw [if_neg hq, value_one p (q :: m) k (fun e => value_above (q :: m) k (fun x hx => by
          rcases List.mem_cons.1 hx with rfl | hx
          · rw [← e]; exact hpq
          · rw [← e]; exact lessB_trans hpq (h1 x hx)))]
theorem Holds.set {n : Nd} {m : List Pr} (h : Holds n m) (hw : n.WF) (k v : ByteArray) (hk : k.size ≤ 64) (hv : v.size ≤ 400) : Holds (n.set (pathN k) v) (laidL m (k, v)) := by
  rw [laid_ins]
  refine ⟨⟨ins_rise m _ h.map.rise, fun p hp => ?_⟩, fun k2 hk2 => ?_, fun p hp => ?_⟩
  · rcases ins_mem m _ p hp with ⟨rfl, h0⟩ | hp
    · exact ⟨hk, hv, h0⟩
    · exact h.map.bound p hp
  · rw [look_set hw (pathN_lt k), ins_value m _ k2 h.map.rise]
    by_cases e : k = k2
    · subst e; simp
    · have e2 : ¬ pathN k = pathN k2 := fun e3 => e (pathN_inj e3)
      simp only [e, e2, if_false]
      exact h.look k2 hk2
  · rw [look_set hw (pathN_lt k)] at hp
    by_cases e : pathN k = p
    · exact ⟨k, e.symm, hk⟩
    · rw [if_neg e] at hp
      exact h.keys p hp
theorem Holds.drop {n : Nd} {m : List Pr} (h : Holds n m) (hw : n.WF) (k : ByteArray) (hk : k.size ≤ 64) : Holds (n.drop (pathN k)) (laidL m (k, e0)) := by
  have := h.set hw k e0 hk (by show 0 ≤ 400; omega)
  unfold Nd.set at this
  rwa [if_pos (show e0.size = 0 from rfl)] at this
theorem Holds.nil : Holds .nil [] := ⟨⟨List.Pairwise.nil, fun p hp => by cases hp⟩, fun _ _ => rfl, fun p hp => absurd rfl hp⟩
end Go.Proofs.YtgepjjebjhidiaaGreatDoor
namespace Go.Proofs.YtgepjjebjhidiaaGreatDoor
open Go.RowKit

/-- a map in memory, apart from the block T -/
structure MapAt (W : World) (T : Nat) (v : Value) (m : List Pr) : Prop where
  form : ∃ ao cap, v = .slice ao m.length cap ∧ (∀ a, ao = some a → a.spot = none) ∧ (ao = none → cap = 0) ∧ m.length ≤ cap ∧ Prs W ao m ∧ ∀ a, ao = some a → a.block ≠ T
theorem MapAt.nil (W : World) (T : Nat) : MapAt W T (.slice none 0 0) [] := ⟨none, 0, rfl, (fun a e => by cases e), fun _ => rfl, Nat.le_refl _, fun i hi => by simp at hi, fun a e => by cases e⟩
theorem MapAt.keep {W W' : World} {T : Nat} {v : Value} {m : List Pr} (h : MapAt W T v m) (hb : Below W.heap.size W W') : MapAt W' T v m := by
  obtain ⟨ao, cap, h1, h2, h3, h4, h5, h6⟩ := h.form
  exact ⟨ao, cap, h1, h2, h3, h4, h5.keep hb, h6⟩
theorem MapAt.only {W W' : World} {T : Nat} {v : Value} {m : List Pr} (h : MapAt W T v m) (ho : Only T W W') : MapAt W' T v m := by
  obtain ⟨ao, cap, h1, h2, h3, h4, h5, h6⟩ := h.form
  refine ⟨ao, cap, h1, h2, h3, h4, fun i hi => ?_, h6⟩
  obtain ⟨g, o, e, c1, c2⟩ := h5 i hi
  have hg : g ≠ T := h6 _ e
  have hk : W'.heap[g]? = W.heap[g]? := ho.block g (World.block_lt_of_cell? W _ c1) (fun e => by injection e with e; exact hg e)
  exact ⟨g, o, e, (World.cell?_of_block (a := ⟨g, o + i * 2, none⟩) hk).trans c1, (World.cell?_of_block (a := ⟨g, o + i * 2 + 1, none⟩) hk).trans c2⟩
theorem MapAt.own {W : World} {B T : Nat} {v : Value} {m : List Pr} (h : W.ownsRow B 32 2 v m.length (pairCells m)) (hT : T < B) : MapAt W T v m := by
  obtain ⟨ao, cap, rfl, h2, h3, h4⟩ := own_slice h
  refine ⟨ao, cap, rfl, h2, h3, h4, Prs.own h, fun a e => ?_⟩
  have := own_ge h (Nat.le_refl _) a.block (by rw [e]; rfl)
  omega
/-- Mapped, on its way: the tree, the map, the pairs that are put -/
structure MpSt (w : World) (T M : Nat) (n : Nd) (m l : List Pr) (mv lv : Value) (W : World) : Prop where
  bel : Below w.heap.size w W
  new : w.heap.size ≤ T
  tree : ∃ ok, TreeAt HkC ok W T (.map (some M)) n
  ok : TOk n
  map : MapAt W T mv m
  put : MapAt W T lv l
theorem MpSt.keep {w W W' : World} {T M : Nat} {n : Nd} {m l : List Pr} {mv lv : Value} (h : MpSt w T M n m l mv lv W) (hb : Below W.heap.size W W') : MpSt w T M n m l mv lv W' := by
  obtain ⟨ok, ht⟩ := h.tree
  exact ⟨h.bel.trans (hb.mono h.bel.size), h.new, ⟨ok, ht.keep hb⟩, h.ok, h.map.keep hb, h.put.keep hb⟩
theorem MpSt.change {w W W' : World} {T M : Nat} {n n' : Nd} {m l : List Pr} {mv lv : Value} {ok : Nat → Prop} {e : Ending} (h : MpSt w T M n m l mv lv W) (hc : ChPost HkC ok T (.map (some M)) n' W e W') (ho : TOk n') : e = .returned (.int .i64 0) ∧ MpSt w T M n' m l mv lv W' := by
  obtain ⟨h1, h2, h3⟩ := hc
  refine ⟨h1, h.bel.grown h2 h.bel.size (fun r e => by injection e with e; rw [← e]; exact h.new), h.new, ⟨_, h3⟩, ho, h.map.only h2, h.put.only h2⟩
theorem MpSt.laid {w W W' : World} {T M : Nat} {n : Nd} {m m' l : List Pr} {mv lv v : Value} (h : MpSt w T M n m l mv lv W) (ho : W'.ownsRow W.heap.size 32 2 v m'.length (pairCells m')) (hb : Below W.heap.size W W') : MpSt w T M n m' l v lv W' := by
  have h2 := h.keep hb
  obtain ⟨ok, ht⟩ := h.tree
  exact ⟨h2.bel, h2.new, h2.tree, h2.ok, MapAt.own ho ht.lt, h2.put⟩
theorem MpSt.start {w w0 W W' : World} {T : Nat} {l : List Pr} {lv : Value} {e : Ending} (hb0 : Below w.heap.size w w0) (hn : NewPost HkC w0 e W) (hl : ∀ T, T < W.heap.size → W'.ownsRow W.heap.size 32 2 lv l.length (pairCells l)) (hb : Below W.heap.size W W') (he : e = .returned (.tuple #[ptr T, .int .i64 0])) : ∃ M, MpSt w T M .nil [] l (.slice none 0 0) lv W' := by
  obtain ⟨T', M', e', h1, h2, h3, h4, h5, h6, h7⟩ := hn
  rw [he] at e'
  have hT : T = T' := by
    unfold ptr at e'
    injection e' with e'
    injection e' with e'
    have e2 := congrArg (fun a : Array Value => a[0]?) e'
    simpa using e2
  subst hT
  have hlt := h6.lt
  exact ⟨M', hb0.trans ((h7.mono hb0.size).trans (hb.mono (Nat.le_trans hb0.size h7.size))), Nat.le_trans hb0.size h3, ⟨_, h6.keep hb⟩, TOk.nil, MapAt.nil _ _, MapAt.own (hl T hlt) hlt⟩
/-- a map, with one pair after the other -/
def mapL (m l : List Pr) : List Pr := l.foldl laidL m
theorem mapL_snoc (m l : List Pr) (i : Nat) (h : i < l.length) : mapL m (l.take (i + 1)) = laidL (mapL m (l.take i)) (l.getD i pr0) := by
  unfold mapL
  rw [List.take_succ_eq_append_getElem h, List.foldl_append, List.getD_eq_getElem?_getD, List.getElem?_eq_getElem h]; rfl
theorem laidL_len0 (m : List Pr) (p : Pr) (h : p.2.size = 0) : (laidL m p).length ≤ m.length := by
  have h1 := atL_le m p.1
  unfold laidL endL
  rw [if_pos h]
  split <;> simp <;> omega
theorem mapL_len0 : ∀ (ks : List ByteArray) (m : List Pr), (mapL m (ks.map fun k => (k, e0))).length ≤ m.length
  | [], _ => Nat.le_refl _
  | k :: ks, m => by
    have h1 := mapL_len0 ks (laidL m (k, e0))
    have h2 := laidL_len0 m (k, e0) rfl
    exact Nat.le_trans h1 h2
theorem mapL_len : ∀ (l m : List Pr), (mapL m l).length ≤ m.length + l.length
  | [], _ => Nat.le_refl _
  | p :: l, m => by
    have h1 := mapL_len l (laidL m p)
    have h2 := laidL_len m p
    have e : mapL m (p :: l) = mapL (laidL m p) l := rfl
    rw [e, List.length_cons]
    omega
theorem Holds.setAll {n : Nd} {m : List Pr} : ∀ (l : List Pr), Holds n m → TOk n → (∀ p ∈ l, p.1.size ≤ 64 ∧ p.2.size ≤ 400) → Holds (setAll n l) (mapL m l)
  | l, h, ho, hb => by
    induction l generalizing n m with
    | nil => exact h
    | cons p l ih =>
      have h1 := hb p (List.mem_cons_self ..)
      exact ih (h.set ho.wf p.1 p.2 h1.1 h1.2) (ho.set (pathN_lt _) (by rw [pathN_length]; omega) h1.2) (fun q hq => hb q (List.mem_cons_of_mem _ hq))
theorem Holds.dropAll {n : Nd} {m : List Pr} : ∀ (ks : List ByteArray), Holds n m → TOk n → (∀ k ∈ ks, k.size ≤ 64) → Holds (dropAll n ks) (mapL m (ks.map fun k => (k, e0)))
  | ks, h, ho, hb => by
    induction ks generalizing n m with
    | nil => exact h
    | cons k ks ih =>
      have h1 := hb k (List.mem_cons_self ..)
      exact ih (h.drop ho.wf k h1) (ho.drop (pathN_lt _) (by rw [pathN_length]; omega)) (fun q hq => hb q (List.mem_cons_of_mem _ hq))
theorem smallL_bound (raw : List Pr) : ∀ p ∈ smallL raw, p.1.size ≤ 64 ∧ p.2.size ≤ 400 := fun p hp => by
  obtain ⟨q, _, rfl⟩ := List.mem_map.1 hp
  exact ⟨upToN_size _ _, upToN_size _ _⟩
theorem smallL_len (raw : List Pr) : (smallL raw).length ≤ 60 := by simp [smallL]; omega
end Go.Proofs.YtgepjjebjhidiaaGreatDoor
namespace Go.Proofs.YtgepjjebjhidiaaGreatDoor
open Go.RowKit
attribute [local go_sem ↓] Go.wp_at_zero Go.wp_at_succ

/-- the first loop's state -/
def Mp1 (w : World) (T M : Nat) (l : List Pr) (lv : Value) (i : Nat) (mv : Value) (W : World) : Prop := MpSt w T M (setAll .nil (l.take i)) (mapL [] (l.take i)) l mv lv W ∧ Holds (setAll .nil (l.take i)) (mapL [] (l.take i))
theorem MapAt.grown {W W' : World} {T : Nat} {v : Value} {m : List Pr} {r : Option Nat} (h : MapAt W T v m) (hg : W.grownBy W' r) (hne : ∀ a n c, v = .slice (some a) n c → r ≠ some a.block) : MapAt W' T v m := by
  obtain ⟨ao, cap, h1, h2, h3, h4, h5, h6⟩ := h.form
  refine ⟨ao, cap, h1, h2, h3, h4, fun i hi => ?_, h6⟩
  obtain ⟨g, o, e, c1, c2⟩ := h5 i hi
  have hk : W'.heap[g]? = W.heap[g]? := hg.block g (World.block_lt_of_cell? W _ c1) (fun e' => hne _ _ _ (by rw [h1, e]) e'.symm)
  exact ⟨g, o, e, (World.cell?_of_block (a := ⟨g, o + i * 2, none⟩) hk).trans c1, (World.cell?_of_block (a := ⟨g, o + i * 2 + 1, none⟩) hk).trans c2⟩
theorem Kys.own {w : World} {base c : Nat} {ao : Option Addr} {ks : List ByteArray} (h : w.ownsRow base 9 1 (.slice ao ks.length c) ks.length (ks.map Value.string)) : Kys w ao ks := by
  intro i hi
  rcases h.2 with ⟨_, h0⟩ | ⟨g, c', cur, hh, _⟩
  · omega
  · injection hh with hh1 _ _
    have c1 := h.cells (g := g) (by rw [hh1]; rfl) i (.string (ks.getD i e0)) (by simp [List.getD_eq_getElem?_getD, hi])
    rw [addr_add] at c1
    exact ⟨g, 0, hh1, c1⟩
/-- keys with no value -/
def noVal (ks : List ByteArray) : List Pr := ks.map fun k => (k, e0)
def cutK (ks : List ByteArray) : List ByteArray := ks.map fun k => upToN k 64
theorem cutK_len (ks : List ByteArray) : (cutK ks).length = ks.length := by simp [cutK]
theorem cutK_bound (ks : List ByteArray) : ∀ k ∈ cutK ks, k.size ≤ 64 := fun k hk => by
  obtain ⟨q, _, rfl⟩ := List.mem_map.1 hk
  exact upToN_size _ _
theorem cutK_get (ks : List ByteArray) (i : Nat) (h : i < ks.length) : (cutK ks).getD i e0 = upToN (ks.getD i e0) 64 := by
  simp [cutK, List.getD_eq_getElem?_getD, h]
/-- the second loop's state: Wb the world that it began in -/
structure Mp2 (Wb : World) (T : Nat) (ks : List ByteArray) (m0 : List Pr) (j : Nat) (mv kv : Value) (W : World) : Prop where
  bel : Below Wb.heap.size Wb W
  keys : W.ownsRow Wb.heap.size 9 1 kv j ((ks.take j).map Value.string)
  map : MapAt W T mv (mapL m0 (noVal (ks.take j)))
  off : ∀ a n c, mv = .slice (some a) n c → kv.ownBlock ≠ some a.block
theorem Mp2.start {Wb : World} {T : Nat} {m0 : List Pr} {mv : Value} (ks : List ByteArray) (h : MapAt Wb T mv m0) : Mp2 Wb T ks m0 0 mv (.slice none 0 0) Wb := ⟨Below.refl _ _, World.ownsRow_nil _ _ _ _, h, fun _ _ _ _ e => by cases e⟩
theorem Mp2.app {Wb W W' : World} {T j : Nat} {ks : List ByteArray} {m0 : List Pr} {mv kv : Value} {o : Obj} (h : Mp2 Wb T ks m0 j mv kv W) (hg : (W.alloc o).grownBy W' kv.ownBlock) : Below Wb.heap.size Wb W' ∧ MapAt W' T mv (mapL m0 (noVal (ks.take j))) :=
  ⟨(h.bel.trans ((below_alloc W o).mono h.bel.size)).grown hg (Nat.le_trans h.bel.size (below_alloc W o).size) (own_ge h.keys (Nat.le_refl _)), (h.map.keep (below_alloc W o)).grown hg h.off⟩
theorem Mp2.next {Wb W W' : World} {T j : Nat} {ks : List ByteArray} {m0 : List Pr} {kv v : Value} (hj : j < ks.length) (hT : T < Wb.heap.size) (hb : Below Wb.heap.size Wb W) (hk : W.ownsRow Wb.heap.size 9 1 kv (j + 1) ((ks.take j).map Value.string ++ [.string (ks.getD j e0)]))
    (ho : W'.ownsRow W.heap.size 32 2 v (laidL (mapL m0 (noVal (ks.take j))) (ks.getD j e0, e0)).length (pairCells (laidL (mapL m0 (noVal (ks.take j))) (ks.getD j e0, e0)))) (hb2 : Below W.heap.size W W') : Mp2 Wb T ks m0 (j + 1) v kv W' := by
  have e1 : ks.take (j + 1) = ks.take j ++ [ks.getD j e0] := by
    rw [List.take_succ_eq_append_getElem hj, List.getD_eq_getElem?_getD, List.getElem?_eq_getElem hj]; rfl
  have e2 : mapL m0 (noVal (ks.take (j + 1))) = laidL (mapL m0 (noVal (ks.take j))) (ks.getD j e0, e0) := by
    rw [e1]; simp [mapL, noVal]
  refine ⟨hb.trans (hb2.mono hb.size), ?_, ?_, ?_⟩
  · rw [e1, List.map_append]
    exact own_far hk (fun g _ hg => hb2.block g hg)
  · rw [e2]
    exact MapAt.own ho (Nat.lt_of_lt_of_le hT hb.size)
  · rintro a n c rfl e
    have h1 := own_ge ho (Nat.le_refl _) a.block rfl
    rcases hk.2 with ⟨rfl, _⟩ | ⟨g, c', cur, rfl, _, hh, _⟩
    · cases e
    · have h2 := (Array.getElem?_eq_some_iff.1 hh).1
      have h3 : g = a.block := by simpa [Value.ownBlock] using e
      omega
theorem Mp2.fin {w Wb W : World} {T M : Nat} {n : Nd} {m0 l : List Pr} {mv0 lv mv kv : Value} {ks : List ByteArray} (hb : MpSt w T M n m0 l mv0 lv Wb) (h : Mp2 Wb T ks m0 ks.length mv kv W) : MpSt w T M n (mapL m0 (noVal ks)) l mv lv W ∧ ∃ ko kc, kv = .slice ko ks.length kc ∧ Kys W ko ks := by
  have h2 := hb.keep h.bel
  have h3 := h.map
  have h4 := h.keys
  rw [List.take_length] at h3 h4
  obtain ⟨ko, kc, rfl, _⟩ := own_slice h4
  exact ⟨⟨h2.bel, h2.new, h2.tree, h2.ok, h3, h2.put⟩, ko, kc, rfl, Kys.own h4⟩
end Go.Proofs.YtgepjjebjhidiaaGreatDoor
