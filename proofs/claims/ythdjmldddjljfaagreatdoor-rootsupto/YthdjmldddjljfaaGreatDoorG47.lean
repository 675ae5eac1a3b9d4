/-
  OUR OWN: JoB JoC JoD JoE KnH KnI.
-/
import Derived.Test.YthdjmldddjljfaaGreatDoorG45
import Derived.Test.YthdjmldddjljfaaGreatDoorG01
import Derived.Test.YthdjmldddjljfaaGreatDoorG38
import Derived.Test.YthdjmldddjljfaaGreatDoorG46
import Derived.Test.YthdjmldddjljfaaGreatDoorG12
namespace Go.Proofs.YthdjmldddjljfaaGreatDoor
open Go.RowKit

/-- a value, as the reference has it -/
def thOf (z : List Nat × ByteArray) : V.Th := ⟨intsOf z.1, z.2, ⟨#[]⟩, true⟩
theorem j_cmI : ∀ (p q : List Nat), V.cmI (intsOf p) (intsOf q) = shared p q
  | [], _ => rfl
  | _ :: _, [] => rfl
  | a :: p, b :: q => by
    have ih := j_cmI p q
    simp only [intsOf, List.map_cons, V.cmI, shared] at ih ⊢
    by_cases e : a = b
    · rw [if_pos (by rw [e]), if_pos e, ih]
    · rw [if_neg (by omega), if_neg e]
theorem intsOf_length (p : List Nat) : (intsOf p).length = p.length := by simp [intsOf]
theorem intsOf_append (p q : List Nat) : intsOf (p ++ q) = intsOf p ++ intsOf q := by simp [intsOf]
theorem intsOf_take (p q : List Nat) : (intsOf (p ++ q)).take p.length = intsOf p := by
  rw [intsOf_append, ← intsOf_length p, List.take_left]
theorem intsOf_drop (p q : List Nat) : (intsOf (p ++ q)).drop p.length = intsOf q := by
  rw [intsOf_append, ← intsOf_length p, List.drop_left]
theorem intsOf_inj {p q : List Nat} (h : intsOf p = intsOf q) : p = q := by
  unfold intsOf at h
  exact (List.map_inj_right (fun a b hab => by omega)).1 h
theorem j_shTh (F : List (List Nat × ByteArray)) : V.shTh (F.map thOf) = sharedN (F.map Prod.fst) := by
  cases F with
  | nil => rfl
  | cons x r =>
    simp only [List.map_cons, V.shTh, sharedN, thOf, intsOf_length]
    have : ∀ (r : List (List Nat × ByteArray)) (n : Nat), (r.map thOf).foldl (fun n y => min n (V.cmI y.path (intsOf x.1))) n = (r.map Prod.fst).foldl (fun n y => min n (shared y x.1)) n := by
      intro r
      induction r with
      | nil => intro n; rfl
      | cons y r ih => intro n; simp only [List.map_cons, List.foldl_cons, ih]; rw [show (thOf y).path = intsOf y.1 from rfl, j_cmI]
    exact this r _
theorem j_inK (i k : Nat) (z : List Nat × ByteArray) : V.inK i k (thOf z) = decide (z.1[i]? = some k) := by
  unfold V.inK thOf
  simp only [intsOf_length]
  by_cases h : i < z.1.length
  · rw [decide_eq_true h, Bool.true_and, List.getElem?_eq_getElem h, decide_eq_decide]
    simp [intsOf, List.getD_eq_getElem?_getD, h]
    omega
  · rw [decide_eq_false h, Bool.false_and, List.getElem?_eq_none (by omega)]; simp
theorem j_partK (F : List (List Nat × ByteArray)) (i k : Nat) : V.partK (F.map thOf) i k = (F.filter (fun z => decide (z.1[i]? = some k))).map thOf := by
  unfold V.partK
  rw [List.filter_map]
  congr 1
  apply List.filter_congr
  intro z _
  exact j_inK i k z
theorem j_refC (c : ByteArray) : V.refC c = refB false c := by
  unfold V.refC
  rw [j_textC]
  rfl
/-- the nodes that the reference tells -/
def madeL : Nd → List Nat → List V.Md
  | .nil => fun _ => []
  | .leaf q v => fun p => [⟨intsOf p, (Nd.leaf q v).code, decide (32 ≤ (Nd.leaf q v).code.size)⟩]
  | .ext q m => fun p => ⟨intsOf p, (Nd.ext q m).code, decide (32 ≤ (Nd.ext q m).code.size)⟩ :: madeL m (p ++ q)
  | .br c v => fun p => ⟨intsOf p, (Nd.br c v).code, decide (32 ≤ (Nd.br c v).code.size)⟩ :: (List.range 16).flatMap (fun i => madeL (c i) (p ++ [i]))
theorem made_list {c : Nat → Nd} {g : Nat → List V.Md} {f : Nat → List (List Nat × ByteArray)} : ∀ (L : List Nat), (∀ i ∈ L, c i = .nil → g i = []) → (∀ i ∈ L, c i ≠ .nil → (g i).length + 2 ≤ 3 * (f i).length) →
    (L.flatMap g).length + 2 * (L.filter (fun i => !(c i).isNil)).length ≤ 3 * (L.flatMap f).length
  | [], _, _ => by simp
  | i :: L, h0, h => by
    have ih := made_list (c := c) (f := f) (g := g) L (fun j hj => h0 j (List.mem_cons_of_mem _ hj)) (fun j hj => h j (List.mem_cons_of_mem _ hj))
    have hi := h i (List.mem_cons_self ..)
    rw [List.flatMap_cons, List.length_append, List.filter_cons, List.flatMap_cons, List.length_append]
    cases hn : (c i).isNil with
    | true =>
      have e : c i = .nil := (isNil_iff _).1 hn
      have e0 := h0 i (List.mem_cons_self ..) e
      simp only [Bool.not_true, Bool.false_eq_true, if_false, e0, List.length_nil]
      omega
    | false =>
      have e : c i ≠ .nil := fun e => by rw [(isNil_iff _).2 e] at hn; cases hn
      have := hi e
      simp only [Bool.not_false, if_true, List.length_cons]
      omega
theorem made_len : ∀ (n : Nd) (p : List Nat), n.WF → n ≠ .nil → (madeL n p).length + 2 ≤ 3 * (n.flat p).length ∧ (n.isBr = true → (madeL n p).length + 3 ≤ 3 * (n.flat p).length)
  | .nil, _, _, h => absurd rfl h
  | .leaf q v, p, _, _ => ⟨by simp [madeL, Nd.flat], fun h => by simp [Nd.isBr] at h⟩
  | .ext q m, p, hw, _ => by
    have hm : m ≠ .nil := fun e => by
      have := hw.2.2.1
      rw [e] at this
      simp [Nd.isBr] at this
    have ih := (made_len m (p ++ q) hw.2.2.2 hm).2 hw.2.2.1
    refine ⟨?_, fun h => by simp [Nd.isBr] at h⟩
    show (madeL m (p ++ q)).length + 1 + 2 ≤ 3 * (m.flat (p ++ q)).length
    omega
  | .br c v, p, hw, _ => by
    have hl := made_list (c := c) (g := fun i => madeL (c i) (p ++ [i])) (f := fun i => (c i).flat (p ++ [i])) (List.range 16) (fun i _ e => by rw [e]; rfl) (fun i _ hi => (made_len (c i) (p ++ [i]) (hw.1 i) hi).1)
    have hp := hw.2.2
    have key : (madeL (Nd.br c v) p).length + 3 ≤ 3 * ((Nd.br c v).flat p).length := by
      show ((List.range 16).flatMap (fun i => madeL (c i) (p ++ [i]))).length + 1 + 3 ≤ 3 * ((if v.size = 0 then [] else [(p, v)]) ++ (List.range 16).flatMap (fun i => (c i).flat (p ++ [i]))).length
      rw [List.length_append]
      unfold nParts full at hp
      by_cases hv : v.size = 0
      · rw [if_pos hv] at hp ⊢
        simp only [List.length_nil]
        omega
      · rw [if_neg hv] at hp ⊢
        simp only [List.length_cons, List.length_nil]
        omega
    exact ⟨by omega, fun _ => key⟩
theorem range_mono {α : Type} (f : Nat → List α) : ∀ {k n : Nat}, k ≤ n → ((List.range k).flatMap f).length ≤ ((List.range n).flatMap f).length
  | k, 0, h => by obtain rfl : k = 0 := by omega
                  exact Nat.le_refl _
  | k, n + 1, h => by
    by_cases e : k = n + 1
    · rw [e]; exact Nat.le_refl _
    · refine Nat.le_trans (range_mono f (show k ≤ n by omega)) ?_
      rw [List.range_succ (n := n), List.flatMap_append, List.length_append]; omega
theorem flat_pre {n : Nd} {p : List Nat} (hw : n.WF) : ∀ z ∈ n.flat p, ∃ r, z.1 = p ++ r := fun z hz => by
  obtain ⟨r, e, _⟩ := (flat_mem n p z hw).1 hz
  exact ⟨r, e⟩
theorem flat_ne {n : Nd} (hw : n.WF) (hn : n ≠ .nil) (p : List Nat) : n.flat p ≠ [] := by
  obtain ⟨r, hr, _⟩ := look_some n hw hn
  exact List.ne_nil_of_mem ((flat_mem n p (p ++ r, n.look r) hw).2 ⟨r, rfl, rfl, hr⟩)
theorem first_path {F : List (List Nat × ByteArray)} {p : List Nat} (hne : F ≠ []) (h : ∀ z ∈ F, ∃ r, z.1 = p ++ r) : ∃ r, ((F.map thOf).getD 0 V.th0).path = intsOf (p ++ r) := by
  cases F with
  | nil => exact absurd rfl hne
  | cons z r =>
    obtain ⟨s, hs⟩ := h z (List.mem_cons_self ..)
    exact ⟨s, by simp [thOf, hs]⟩
theorem noHash_map (F : List (List Nat × ByteArray)) : V.NoHash (F.map thOf) := fun x hx => by
  obtain ⟨z, _, rfl⟩ := List.mem_map.1 hx; rfl
theorem short_map {F : List (List Nat × ByteArray)} (h : ∀ z ∈ F, z.1.length ≤ 128) : V.Short (F.map thOf) := fun x hx => by
  obtain ⟨z, hz, rfl⟩ := List.mem_map.1 hx
  show (intsOf z.1).length ≤ 128
  rw [intsOf_length]; exact h z hz
theorem val_br {c : Nat → Nd} {v : ByteArray} (hw : (Nd.br c v).WF) (p : List Nat) : V.valAt (((Nd.br c v).flat p).map thOf) (intsOf p) = v := by
  unfold V.valAt
  by_cases hv : v.size = 0
  · have hany : (((Nd.br c v).flat p).map thOf).any (V.atF (intsOf p)) = false := by
      rw [List.any_eq_false]
      intro x hx
      obtain ⟨z, hz, rfl⟩ := List.mem_map.1 hx
      obtain ⟨r, e, l, s⟩ := (flat_mem _ p z hw).1 hz
      have hr : r ≠ [] := fun e0 => by
        rw [e0] at l
        have l : v = z.2 := by simpa [Nd.look] using l
        rw [← l] at s; exact s hv
      simp only [V.atF, thOf, Bool.and_eq_true, not_and]
      intro _ h
      have h1 := intsOf_inj (of_decide_eq_true h)
      rw [e] at h1
      have := congrArg List.length h1
      simp at this
      exact hr this
    rw [hany, if_neg (by simp)]
    have : v = ⟨#[]⟩ := ByteArray.ext (Array.eq_empty_of_size_eq_zero hv)
    rw [this]; rfl
  · have hF : (Nd.br c v).flat p = (p, v) :: (List.range 16).flatMap (fun i => (c i).flat (p ++ [i])) := by
      show (if v.size = 0 then [] else [(p, v)]) ++ _ = _
      rw [if_neg hv]; rfl
    rw [hF, List.map_cons]
    have h0 : V.atF (intsOf p) (thOf (p, v)) = true := by simp [V.atF, thOf]; rfl
    rw [List.any_cons, h0, Bool.true_or, if_pos rfl, List.findIdx_cons, h0]
    rfl
theorem node_tleaf (q : List Nat) (v : ByteArray) (p : List Nat) (hcb : CB (.leaf q v)) (hz : (p ++ q).length ≤ 128) (b : Nat) (lv : Value) (W : World) (hr : V.ThRow b W lv [thOf (p ++ q, v)]) :
    Calls Tryz.prog 56 #[lv, .int .i64 (p.length : Int)] W (V.NodePost (Nd.leaf q v).code (madeL (.leaf q v) p) W) := by
  obtain ⟨x, hx⟩ : ∃ x, thOf (p ++ q, v) = x := ⟨_, rfl⟩
  have h1 : x.path = intsOf (p ++ q) := by rw [← hx]; rfl
  have h2 : x.value = v := by rw [← hx]; rfl
  have h3 : x.hash = ⟨#[]⟩ := by rw [← hx]; rfl
  rw [hx] at hr
  have hd : x.path.drop p.length = intsOf q := by rw [h1]; exact intsOf_drop p q
  have ht : x.path.take p.length = intsOf p := by rw [h1]; exact intsOf_take p q
  have hl : x.path.length = (p ++ q).length := by rw [h1, intsOf_length]
  have hcode : V.listC [V.textC (codeOf true (intsOf q)), V.textC v] = (Nd.leaf q v).code := by rw [j_listC, j_textC, j_textC]; rfl
  have hc6 := code_size hcb
  have hq : isP (intsOf q) = true := isP_path (by simp at hz; omega) hcb.wf.2
  have h := V.node_leaf b lv x p.length W hr (by omega) h3 (by rw [hl]; simp) (by rw [hd]; exact hq) (by rw [hd, h2, hcode]; omega)
  unfold V.leafMd at h
  rw [hd, h2, hcode, ht] at h
  exact h
set_option maxHeartbeats 1000000 in
/-- the reference's node of what a tree holds -/
theorem node_tree : ∀ (n : Nd) (p : List Nat), CB n → n ≠ .nil → (∀ z ∈ n.flat p, z.1.length ≤ 128) → (n.flat p).length ≤ 100000000 → ∀ (b : Nat) (lv : Value) (W : World), V.ThRow b W lv ((n.flat p).map thOf) →
    Calls Tryz.prog 56 #[lv, .int .i64 (p.length : Int)] W (V.NodePost n.code (madeL n p) W)
  | .nil, _, _, h, _, _, _, _, _, _ => absurd rfl h
  | .leaf q v, p, hcb, _, hs, _, b, lv, W, hr => node_tleaf q v p hcb (hs (p ++ q, v) (List.mem_singleton.2 rfl)) b lv W hr
  | .ext q m, p, hcb, _, hs, hl, b, lv, W, hr => by
    have ih := node_tree m (p ++ q) hcb.ext (fun e => by have := hcb.wf.2.2.1; rw [e] at this; simp [Nd.isBr] at this) hs hl
    obtain ⟨c, v, rfl⟩ : ∃ c v, m = .br c v := by
      have hw := hcb.wf
      cases m with
      | br c v => exact ⟨c, v, rfl⟩
      | nil => exact absurd hw (by simp [Nd.WF, Nd.isBr])
      | leaf _ _ => exact absurd hw (by simp [Nd.WF, Nd.isBr])
      | ext _ _ => exact absurd hw (by simp [Nd.WF, Nd.isBr])
    have hcm := hcb.ext
    have hwm := hcm.wf
    have hne := flat_ne hwm (by simp) (p ++ q)
    obtain ⟨r, hpa⟩ := first_path hne (flat_pre hwm)
    have hcc := code_size hcm
    have hq0 : 0 < q.length := List.length_pos_iff.2 hcb.wf.1
    have hql : q.length ≤ 128 := hcb.len.1
    have hmd := (made_len (.br c v) (p ++ q) hwm (by simp)).1
    have e1 : (intsOf (p ++ q ++ r)).take (p ++ q).length = intsOf (p ++ q) := intsOf_take _ _
    have e2 : (intsOf (p ++ q)).drop p.length = intsOf q := intsOf_drop _ _
    have e3 : (intsOf (p ++ q ++ r)).take p.length = intsOf p := by rw [List.append_assoc]; exact intsOf_take _ _
    have hcode : V.listC [V.textC (codeOf false (intsOf q)), V.refC (Nd.br c v).code] = (Nd.ext q (.br c v)).code := by rw [j_listC, j_textC, j_refC]; rfl
    have hex := code_size hcb
    have h := V.node_ext b lv (((Nd.br c v).flat (p ++ q)).map thOf) p.length (p ++ q).length (Nd.br c v).code (madeL (.br c v) (p ++ q)) W hr (short_map hs) (by rw [List.length_map]; exact br_two hwm _) (by rw [List.length_map]; exact Nat.le_trans hl (by decide)) (by rw [j_shTh]; exact sharedN_br hwm _) (by simp; omega)
      (by rw [hpa, e1, e2]; exact isP_path hql hcb.wf.2.1) (fun W' hW => ih b lv W' (hr.keep hW)) (fun h32 => code_can hwm (by simp) h32) (by omega) (by rw [j_textC, ← hash_textC]; decide) (by change ((Nd.br c v).flat (p ++ q)).length ≤ _ at hl; omega) (by rw [hpa, e1, e2, hcode]; omega)
    rw [hpa, e1, e2, e3, hcode] at h
    exact h
  | .br c v, p, hcb, _, hs, hl, b, lv, W, hr => by
    have hw := hcb.wf
    have hne := flat_ne hw (by simp) p
    obtain ⟨r, hpa⟩ := first_path hne (flat_pre hw)
    have e1 : (intsOf (p ++ r)).take p.length = intsOf p := intsOf_take _ _
    have hpk : ∀ k, k < 16 → V.partK (((Nd.br c v).flat p).map thOf) p.length k = ((c k).flat (p ++ [k])).map thOf := fun k hk => by rw [j_partK, filter_br hw p hk]
    have hnil : ∀ k, k < 16 → (V.partK (((Nd.br c v).flat p).map thOf) p.length k).isEmpty = (c k).isNil := fun k hk => by
      rw [hpk k hk]
      cases hn : (c k).isNil with
      | true => rw [(isNil_iff _).1 hn]; rfl
      | false =>
        have := flat_ne (hw.1 k) (fun e => by rw [(isNil_iff _).2 e] at hn; cases hn) (p ++ [k])
        rw [List.isEmpty_eq_false_iff]
        exact fun e => this (List.map_eq_nil_iff.1 e)
    have hsub : ∀ k, k < 16 → ∀ z ∈ (c k).flat (p ++ [k]), z ∈ (Nd.br c v).flat p := fun k hk z hz => by
      rw [← filter_br hw p hk] at hz; exact (List.mem_filter.1 hz).1
    have hlen : ∀ k, k < 16 → ((c k).flat (p ++ [k])).length ≤ ((Nd.br c v).flat p).length := fun k hk => by
      rw [← filter_br hw p hk]; exact List.length_filter_le _ _
    have hbT : ∀ k ∈ List.range 16, V.brT (((Nd.br c v).flat p).map thOf) p.length (fun k => (c k).code) k = refB (c k).isNil (c k).code := fun k hk => by
      unfold V.brT
      rw [hnil k (List.mem_range.1 hk)]
      cases hn : (c k).isNil with
      | true => rw [if_pos rfl, j_textC]; rfl
      | false => rw [if_neg (by simp), j_refC]
    have hbM : ∀ k ∈ List.range 16, V.brM (((Nd.br c v).flat p).map thOf) p.length (fun k => madeL (c k) (p ++ [k])) k = madeL (c k) (p ++ [k]) := fun k hk => by
      unfold V.brM
      rw [hnil k (List.mem_range.1 hk)]
      cases hn : (c k).isNil with
      | true => rw [(isNil_iff _).1 hn]; rfl
      | false => rw [if_neg (by simp)]
    have hMe : (List.range 16).flatMap (V.brM (((Nd.br c v).flat p).map thOf) p.length (fun k => madeL (c k) (p ++ [k]))) = (List.range 16).flatMap (fun k => madeL (c k) (p ++ [k])) := by
      rw [List.flatMap_def, List.flatMap_def, List.map_congr_left hbM]
    have hcode : V.brCode (((Nd.br c v).flat p).map thOf) p.length (fun k => (c k).code) (intsOf p) = (Nd.br c v).code := by
      unfold V.brCode
      rw [val_br hw, j_listC, j_textC, List.map_congr_left hbT]; rfl
    have hmd := (made_len (.br c v) p hw (by simp)).1
    have hex := code_size hcb
    have hmt : ((List.range 16).flatMap (fun k => madeL (c k) (p ++ [k]))).length ≤ 1000000000 := by
      change ((List.range 16).flatMap (fun k => madeL (c k) (p ++ [k]))).length + 1 + 2 ≤ _ at hmd
      omega
    have h := V.node_br b lv (((Nd.br c v).flat p).map thOf) p.length (fun k => (c k).code) (fun k => madeL (c k) (p ++ [k])) W hr (short_map hs) (noHash_map _) (by rw [List.length_map]; exact br_two hw _) (by rw [List.length_map]; exact Nat.le_trans hl (by decide)) (by rw [j_shTh]; exact sharedN_br hw _)
      (fun k hk hem b' pv W' _ hr' => by
        rw [hpk k hk] at hr'
        rw [hnil k hk] at hem
        have := node_tree (c k) (p ++ [k]) (hcb.kid k) (fun e => by rw [(isNil_iff _).2 e] at hem; cases hem) (fun z hz => hs z (hsub k hk z hz)) (Nat.le_trans (hlen k hk) hl) b' pv W' hr'
        have e : (((p ++ [k]).length : Nat) : Int) = (p.length : Int) + 1 := by simp
        rwa [e] at this)
      (fun k hk hem => by
        rw [hnil k hk] at hem
        have hkn : c k ≠ .nil := fun e => by rw [(isNil_iff _).2 e] at hem; cases hem
        exact ⟨fun h32 => code_can (hw.1 k) hkn h32, by have := code_size (hcb.kid k); omega, by rw [j_textC, ← hash_textC]; decide⟩)
      (fun k hk => by
        refine Nat.le_trans (range_mono _ hk) ?_
        rw [hMe]; exact hmt)
      (fun k hk => by
        by_cases hkn : c k = .nil
        · simp only [hkn]; exact Nat.zero_le _
        · have h1 := (made_len (c k) (p ++ [k]) (hw.1 k) hkn).1
          have h2 := hlen k hk
          omega)
      (by rw [hpa, e1, hcode]; omega)
    rw [hpa, e1, hcode, hMe] at h
    exact h
end Go.Proofs.YthdjmldddjljfaaGreatDoor
namespace Go.Proofs.YthdjmldddjljfaaGreatDoor

theorem j_less : ∀ (p q : List Nat), V.lessI (intsOf p) (intsOf q) = true ↔ plt p q
  | [], [] => by simp [intsOf, V.lessI, plt]
  | [], _ :: _ => by simp [intsOf, V.lessI, plt]
  | _ :: _, [] => by simp [intsOf, V.lessI, plt]
  | a :: p, b :: q => by
    have ih := j_less p q
    simp only [intsOf, List.map_cons, V.lessI, plt] at ih ⊢
    by_cases e : a = b
    · rw [if_pos (by rw [e]), ih, e]; simp
    · rw [if_neg (by omega), decide_eq_true_eq]
      constructor
      · intro h; exact .inl (by omega)
      · rintro (h | ⟨h, _⟩)
        · omega
        · exact absurd h e
/-- a value comes in -/
def insF : List (List Nat × ByteArray) → List Nat × ByteArray → List (List Nat × ByteArray)
  | [], z => [z]
  | x :: F, z => if V.lessI (intsOf x.1) (intsOf z.1) = true then x :: insF F z else z :: x :: F
theorem mark_of (z : List Nat × ByteArray) : V.mark1 (thOf z) = thOf z := rfl
theorem j_insL : ∀ (F : List (List Nat × ByteArray)) (z : List Nat × ByteArray), V.insL (F.map thOf) (intsOf z.1) z.2 = (insF F z).map thOf
  | [], z => rfl
  | x :: F, z => by
    have ih := j_insL F z
    unfold V.insL at ih ⊢
    rw [List.map_cons, V.insK]
    by_cases h : V.lessI (intsOf x.1) (intsOf z.1) = true
    · rw [if_pos (show V.lessI (thOf x).path (intsOf z.1) = true from h)]
      unfold insF
      rw [if_pos h, List.map_cons, ← ih]
      rfl
    · rw [if_neg (show ¬ V.lessI (thOf x).path (intsOf z.1) = true from h)]
      unfold insF
      rw [if_neg h]
      simp only [List.take_zero, List.drop_zero, List.nil_append, List.map_append, List.map_cons, List.map_nil, List.map_map]
      have : (V.mark1 ∘ thOf) = thOf := rfl
      rw [this]; rfl
theorem insF_mem : ∀ (F : List (List Nat × ByteArray)) (z x : List Nat × ByteArray), x ∈ insF F z ↔ x = z ∨ x ∈ F
  | [], z, x => by simp [insF]
  | y :: F, z, x => by
    unfold insF
    split
    · rw [List.mem_cons, insF_mem F z x, List.mem_cons]
      constructor
      · rintro (h | h | h)
        · exact .inr (.inl h)
        · exact .inl h
        · exact .inr (.inr h)
      · rintro (h | h | h)
        · exact .inr (.inl h)
        · exact .inl h
        · exact .inr (.inr h)
    · simp [List.mem_cons]
theorem insF_len : ∀ (F : List (List Nat × ByteArray)) (z : List Nat × ByteArray), (insF F z).length = F.length + 1
  | [], _ => rfl
  | y :: F, z => by
    unfold insF
    split
    · simp [insF_len F z]
    · simp
theorem insF_sorted : ∀ (F : List (List Nat × ByteArray)) (z : List Nat × ByteArray), F.Pairwise (fun x y => plt x.1 y.1) → (∀ x ∈ F, x.1 ≠ z.1) → (insF F z).Pairwise (fun x y => plt x.1 y.1)
  | [], z, _, _ => by simp [insF]
  | y :: F, z, hs, hne => by
    obtain ⟨h1, h2⟩ := List.pairwise_cons.1 hs
    unfold insF
    split
    · rename_i h
      refine List.pairwise_cons.2 ⟨fun x hx => ?_, insF_sorted F z h2 (fun x hx => hne x (List.mem_cons_of_mem _ hx))⟩
      rcases (insF_mem F z x).1 hx with rfl | hx
      · exact (j_less _ _).1 h
      · exact h1 x hx
    · rename_i h
      have hzy : plt z.1 y.1 := by
        rcases plt_total z.1 y.1 with h3 | h3 | h3
        · exact h3
        · exact absurd h3.symm (hne y (List.mem_cons_self ..))
        · exact absurd ((j_less _ _).2 h3) h
      refine List.pairwise_cons.2 ⟨fun x hx => ?_, hs⟩
      rcases List.mem_cons.1 hx with rfl | hx
      · exact hzy
      · exact plt_trans hzy (h1 x hx)
/-- a list that holds what a tree holds is the tree's -/
theorem flat_eq {n : Nd} (hw : n.WF) {F : List (List Nat × ByteArray)} (hs : F.Pairwise (fun x y => plt x.1 y.1)) (hm : ∀ x, x ∈ F ↔ (n.look x.1 = x.2 ∧ x.2.size ≠ 0)) : F = n.flat [] := by
  refine sorted_same (R := fun x y : List Nat × ByteArray => plt x.1 y.1) (fun a => plt_irrefl _) (fun h1 h2 => plt_trans h1 h2) F (n.flat []) hs (flat_sorted n [] hw) (fun x => ?_)
  rw [hm x, flat_mem n [] x hw]
  constructor
  · rintro ⟨h1, h2⟩; exact ⟨x.1, rfl, h1, h2⟩
  · rintro ⟨r, h0, h1, h2⟩
    rw [List.nil_append] at h0
    rw [h0]; exact ⟨h1, h2⟩
end Go.Proofs.YthdjmldddjljfaaGreatDoor
namespace Go.Proofs.YthdjmldddjljfaaGreatDoor
open Go.RowKit
attribute [local go_sem ↓] Go.wp_at_zero Go.wp_at_succ

/-- the reference's tree: its box, its list -/
structure RTree (w : World) (T : Nat) (S lv : Value) (F : List (List Nat × ByteArray)) : Prop where
  box : w.heap[T]? = some (.cells #[S, lv] 77 (0, 0))
  list : (F = [] ∧ lv = .slice none 0 0) ∨ (F ≠ [] ∧ V.ThRow (T + 1) w lv (F.map thOf))
theorem RTree.keep {w w' : World} {T : Nat} {S lv : Value} {F : List (List Nat × ByteArray)} (h : RTree w T S lv F) (hb : Below w.heap.size w w') : RTree w' T S lv F :=
  ⟨(hb.block T (Array.getElem?_eq_some_iff.1 h.box).1).trans h.box, h.list.imp id (fun h => ⟨h.1, h.2.keep hb⟩)⟩
set_option maxHeartbeats 2000000 in
set_option maxRecDepth 20000 in
theorem rRoot_any (T : Nat) (S lv : Value) (n : Nd) (w : World) (ht : RTree w T S lv (n.flat [])) (hcb : CB n) (hs : ∀ z ∈ n.flat [], z.1.length ≤ 128) (hl : (n.flat []).length ≤ 100000000) :
    Calls Tryz.prog 22 #[.pointer (some ⟨T, 0, none⟩)] w fun e w' => e = .returned (.string (rootOf n)) ∧ Below w.heap.size w w' := by
  have c1 : w.cell? ⟨T, 1, none⟩ = some lv := cell_of_row _ _ 1 _ _ (0, 0) ht.box
  by_cases hn : n = .nil
  · subst hn
    obtain rfl : lv = .slice none 0 0 := by
      rcases ht.list with ⟨_, h⟩ | ⟨h, _⟩
      · exact h
      · exact absurd rfl h
    have HN := hide (fun W => V.rNone_any W)
    have HE : Hid (V.root0 = rootOf .nil) := by show _ = _; kernel_rfl
    rw [HE.out] at HN
    clear ht
    go_enter Tryz.func22, Tryz.ntmps22
    go_wp2_with fail
    refine (HN.out _).mono ?_
    rintro e w1 ⟨rfl, hb1⟩
    go_wp2
    go_ret
    exact ⟨rfl, hb1⟩
  · have hr : V.ThRow (T + 1) w lv ((n.flat []).map thOf) := by
      rcases ht.list with ⟨h, _⟩ | ⟨_, h⟩
      · exact absurd h (flat_ne hcb.wf hn [])
      · exact h
    have hpos : 0 < (n.flat []).length := List.length_pos_iff.2 (flat_ne hcb.wf hn [])
    have HNd := hide (node_tree n [] hcb hn hs hl (T + 1) lv w hr)
    have HH := hide (fun W => V.rHash_any n.code W (by have := code_size hcb; omega))
    have HE : Hid (hashOf n.code = rootOf n) := by
      show _ = _
      cases n with
      | nil => exact absurd rfl hn
      | _ => rfl
    rw [HE.out] at HH
    obtain ⟨ao, cap, rfl⟩ := hr.shape
    have hlen : (((n.flat []).map thOf).length : Int) = ((n.flat []).length : Int) := by simp
    have e0 : (((n.flat []).length : Int) == 0) = false := beq_false_of_ne (by omega)
    rw [List.length_map] at *
    unfold V.NodePost at HNd
    clear hr ht
    go_enter Tryz.func22, Tryz.ntmps22
    go_wp2_with fail
    refine HNd.out.mono ?_
    rintro e w1 ⟨mv, rfl, _, hb1⟩
    have HB1 := hide hb1
    clear hb1
    go_wp2_with fail
    refine (HH.out _).mono ?_
    rintro e w2 ⟨rfl, hb2⟩
    have HB2 := hide hb2
    clear hb2
    go_wp2
    go_ret
    exact ⟨rfl, HB1.out.trans (HB2.out.mono HB1.out.size)⟩
end Go.Proofs.YthdjmldddjljfaaGreatDoor
namespace Go.Proofs.YthdjmldddjljfaaGreatDoor
open Go.RowKit
attribute [local go_sem ↓] Go.wp_at_zero Go.wp_at_succ

theorem j_nibs : ∀ (l : List UInt8), V.nibs l = intsOf ((nibs l).map Int.toNat)
  | [] => rfl
  | b :: r => by
    have ih := j_nibs r
    simp only [V.nibs, nibs, intsOf, List.map_cons] at ih ⊢
    have h1 : (((b.toNat : Int) / 16).toNat : Int) = (b.toNat : Int) / 16 := by omega
    have h2 : (((b.toNat : Int) % 16).toNat : Int) = (b.toNat : Int) % 16 := by omega
    rw [ih, h1, h2]
theorem j_path (k : ByteArray) : V.nibs k.data.toList = intsOf (pathN k) := j_nibs _
theorem path_len (k : ByteArray) : (intsOf (pathN k)).length = 2 * k.size := by
  rw [← j_path, V.nibs_length]; rfl
/-- a key's path, made by the reference -/
theorem halves_path (k : ByteArray) (W : World) (hk : k.size ≤ 1000) : Calls Tryz.prog 21 #[.string k] W fun e w' => ∃ pa pc, e = .returned (.slice pa (intsOf (pathN k)).length pc) ∧ V.PSl w' pa pc (intsOf (pathN k)) ∧ Below W.heap.size W w' := by
  refine (V.halves_any k W (by omega)).mono ?_
  rintro e w' ⟨v, rfl, ho, hb⟩
  rw [j_path, ← path_len] at ho
  obtain ⟨pa, pc, rfl, h⟩ := V.PSl.of_own ho
  exact ⟨pa, pc, rfl, h, hb⟩
theorem ThRow.keepX {base : Nat} {w w' : World} {v : Value} {L : List V.Th} (h : V.ThRow base w v L) (hk : ∀ g, base ≤ g → g < w.heap.size → w'.heap[g]? = w.heap[g]?) (hi : V.KpI w w') : V.ThRow base w' v L := by
  obtain ⟨css, h1, h2⟩ := h
  exact ⟨css, own_far h1 (fun g hg hl => hk g (own_ge h1 (Nat.le_refl _) g hg) hl), h2.mono (fun _ _ h => h.keep hi)⟩
/-- a value is put: what the box holds then -/
theorem RTree.set {w0 w : World} {T : Nat} {S lv rv : Value} {F G : List (List Nat × ByteArray)} (h : RTree w0 T S lv F) (hb : Below w0.heap.size w0 w) {B : Nat} (hB : T < B) (hr : V.ThRow B w rv (G.map thOf)) (hG : G ≠ []) : RTree (w.setCell ⟨T, 1, none⟩ rv) T S rv G := by
  have hbx := (h.keep hb).box
  refine ⟨heap_setCell_same w T 1 _ 77 rv hbx, .inr ⟨hG, ?_⟩⟩
  refine (ThRow.keepX hr (fun g hg _ => Below.heap_setCell _ _ _ _ (by show g ≠ T; omega)) (fun g cur hg => ?_)).base hB
  rw [Below.heap_setCell _ _ _ _ (fun e => ?_)]
  · exact hg
  · have e : g = T := e
    subst e
    rw [hbx] at hg
    simp only [Option.some.injEq, Obj.cells.injEq] at hg
    exact absurd hg.2.1 (by decide)
/-- the reference's put, on a list of values -/
theorem rPut_any (S lv : Value) (T : Nat) (F : List (List Nat × ByteArray)) (k v : ByteArray) (w0 : World) (h : RTree w0 T S lv F) (hs : ∀ z ∈ F, z.1.length ≤ 128) (hno : ∀ z ∈ F, z.1 ≠ pathN k) (hl : F.length ≤ 100000000) (hk : k.size ≤ 64) (hv : v.size ≠ 0) (pa : Option Addr) (pc : Nat) (W : World) (hb : Below w0.heap.size w0 W) (hp : V.PSl W pa pc (intsOf (pathN k))) :
    Calls Tryz.prog 20 #[S, lv, .slice pa (intsOf (pathN k)).length pc, .string v] W fun e w' => ∃ rv, e = .returned (.tuple #[rv, .int .i64 0]) ∧ V.ThRow W.heap.size w' rv ((insF F (pathN k, v)).map thOf) ∧ Below W.heap.size W w' := by
  have hP : (intsOf (pathN k)).length ≤ 100000 := by rw [path_len]; omega
  have hj := j_insL F (pathN k, v)
  rcases h.list with ⟨rfl, rfl⟩ | ⟨hne, hr⟩
  · have := V.put_first S pa pc (intsOf (pathN k)) v W hp hP hv
    unfold V.PutPost at this
    change V.insL [] (intsOf (pathN k)) v = _ at hj
    rwa [hj] at this
  · have hpos : 0 < (F.map thOf).length := by rw [List.length_map]; exact List.length_pos_iff.2 hne
    have hr2 := hr.keep hb
    obtain ⟨g, cap, _, _, rfl, _⟩ := hr2.cellAt 0 hpos
    have hany : (F.map thOf).any (V.atF (intsOf (pathN k))) = false := by
      rw [List.any_eq_false]
      intro x hx
      obtain ⟨z, hz, rfl⟩ := List.mem_map.1 hx
      simp only [V.atF, thOf, Bool.and_eq_true, not_and]
      intro _ h1
      exact hno z hz (intsOf_inj (of_decide_eq_true h1))
    have := V.put_more S (T + 1) g cap (F.map thOf) pa pc (intsOf (pathN k)) v W hr2 (short_map hs) (noHash_map _) hany hp hP (by rw [List.length_map]; omega) hv
    unfold V.PutPost at this
    change V.insL (F.map thOf) (intsOf (pathN k)) v = _ at hj
    rwa [hj] at this
theorem halves_inj : ∀ (a b : List UInt8), (nibs a).map Int.toNat = (nibs b).map Int.toNat → a = b
  | [], [], _ => rfl
  | [], _ :: _, h => by simp [nibs] at h
  | _ :: _, [], h => by simp [nibs] at h
  | a :: x, b :: y, h => by
    simp only [nibs, List.map_cons, List.cons.injEq] at h
    obtain ⟨h1, h2, h3⟩ := h
    rw [halves_inj x y h3, show a = b from UInt8.toNat_inj.1 (by omega)]
theorem key_inj {a b : ByteArray} (h : pathN a = pathN b) : a = b := by
  have := halves_inj _ _ h
  apply ByteArray.ext
  rw [← Array.toArray_toList (xs := a.data), ← Array.toArray_toList (xs := b.data), this]
/-- the list that the reference's puts make of pairs -/
def Fs (ps : List Pr) : List (List Nat × ByteArray) := ps.foldl (fun F p => insF F (pathN p.1, p.2)) []
theorem Fs_snoc (ps : List Pr) (p : Pr) : Fs (ps ++ [p]) = insF (Fs ps) (pathN p.1, p.2) := by unfold Fs; rw [List.foldl_append]; rfl
theorem Fs_mem (ps : List Pr) (x : List Nat × ByteArray) : x ∈ Fs ps ↔ ∃ p ∈ ps, x = (pathN p.1, p.2) := by
  have : ∀ (ps : List Pr) (F : List (List Nat × ByteArray)), x ∈ ps.foldl (fun F p => insF F (pathN p.1, p.2)) F ↔ x ∈ F ∨ ∃ p ∈ ps, x = (pathN p.1, p.2) := by
    intro ps
    induction ps with
    | nil => intro F; simp
    | cons p ps ih =>
      intro F
      rw [List.foldl_cons, ih, insF_mem]
      simp only [List.mem_cons, exists_eq_or_imp]
      constructor
      · rintro ((h | h) | h)
        · exact .inr (.inl h)
        · exact .inl h
        · exact .inr (.inr h)
      · rintro (h | h | h)
        · exact .inl (.inr h)
        · exact .inl (.inl h)
        · exact .inr h
  have h := this ps []
  simpa [Fs] using h
theorem Fs_len : ∀ (ps : List Pr), (Fs ps).length = ps.length := fun ps => by
  have : ∀ (ps : List Pr) (F : List (List Nat × ByteArray)), (ps.foldl (fun F p => insF F (pathN p.1, p.2)) F).length = F.length + ps.length := by
    intro ps
    induction ps with
    | nil => intro F; simp
    | cons p ps ih => intro F; rw [List.foldl_cons, ih, insF_len, List.length_cons]; omega
  have h := this ps []
  simpa [Fs] using h
end Go.Proofs.YthdjmldddjljfaaGreatDoor
namespace Go.Proofs.YthdjmldddjljfaaGreatDoor
open Go.RowKit
attribute [local go_sem ↓] Go.wp_at_zero Go.wp_at_succ

set_option maxHeartbeats 4000000 in
set_option maxRecDepth 20000 in
theorem refPut_one (S lv : Value) (R : Nat) (F : List (List Nat × ByteArray)) (k v : ByteArray) (g o cap : Nat) (w : World) (h : RTree w R S lv F) (hs : ∀ z ∈ F, z.1.length ≤ 128) (hno : ∀ z ∈ F, z.1 ≠ pathN k) (hl : F.length ≤ 100000000) (hk : k.size ≤ 64) (hv : v.size ≠ 0) (hv2 : v.size ≤ 400)
    (hp0 : w.cell? ⟨g, o, none⟩ = some (.string k)) (hp1 : w.cell? ⟨g, o + 1, none⟩ = some (.string v)) :
    Calls Tryz.prog 58 #[.pointer (some ⟨R, 0, none⟩), .slice (some ⟨g, o, none⟩) 1 cap] w fun e w' => ∃ rv W, e = .returned (.int .i64 0) ∧ w' = W.setCell ⟨R, 1, none⟩ rv ∧ Below w.heap.size w W ∧ RTree w' R S rv (insF F (pathN k, v)) := by
  obtain ⟨la, ln, lc, rfl⟩ : ∃ la ln lc, lv = .slice la ln lc := by
    rcases h.list with ⟨_, h⟩ | ⟨_, h⟩
    · exact ⟨_, _, _, h⟩
    · obtain ⟨a, c, h⟩ := h.shape
      exact ⟨_, _, _, h⟩
  have HR := hide h
  have HPut := hide (fun pa pc W hb hp => rPut_any S (.slice la ln lc) R F k v w h hs hno hl hk hv pa pc W hb hp)
  have HHv := hide (fun W => halves_path k W (by omega))
  have z0 : w.cell? ⟨R, 0, none⟩ = some S := cell_of_row _ _ 0 _ _ (0, 0) h.box
  have z1 : w.cell? ⟨R, 1, none⟩ = some (.slice la ln lc) := cell_of_row _ _ 1 _ _ (0, 0) h.box
  have HRl : Hid (R < w.heap.size) := (Array.getElem?_eq_some_iff.1 h.box).1
  have HX : Hid (∀ W, Below w.heap.size w W → W.cell? ⟨g, o, none⟩ = some (.string k) ∧ W.cell? ⟨g, o + 1, none⟩ = some (.string v)) := fun W hW => ⟨(hW.cell (p := ⟨g, o, none⟩) (World.block_lt_of_cell? w _ hp0)).trans hp0, (hW.cell (p := ⟨g, o + 1, none⟩) (World.block_lt_of_cell? w _ hp1)).trans hp1⟩
  have k1 : (k.size : Int) ≤ 64 := by omega
  have v1 : (v.size : Int) ≤ 400 := by omega
  have HNe : Hid (insF F (pathN k, v) ≠ []) := fun e => by have := insF_len F (pathN k, v); rw [e] at this; simp at this
  clear h hs hno hl hk hv hv2
  go_enter Tryz.func58, Tryz.ntmps58
  go_wp2_with fail
  go_loopw [5] (fun iv wr => ∃ z : Int, iv = .int .i64 z ∧ (z = 0 ∨ z = 1) ∧ wr = w) (fun iv _ => 1 - (intOf iv).toNat)
  case atStart => exact ⟨0, rfl, .inl rfl, rfl⟩
  case round =>
    obtain ⟨z, rfl, hz, rfl⟩ := hrel
    rcases hz with rfl | rfl
    · go_wp2
      go_roundw
      case rel => exact ⟨1, rfl, .inr rfl, trivial⟩
      case measure => simp [intOf]
    · rename World => A
      go_wp2_with fail
      go_loopw [6] (fun iv wr => ∃ z : Int, iv = .int .i64 z ∧ (z = 0 ∨ z = 1) ∧ wr = A) (fun iv _ => 1 - (intOf iv).toNat)
      case atStart => exact ⟨0, rfl, .inl rfl, rfl⟩
      case round =>
        obtain ⟨z, rfl, hz, rfl⟩ := hrel
        rcases hz with rfl | rfl
        · go_wp2
          go_roundw
          case rel => exact ⟨1, rfl, .inr rfl, trivial⟩
          case measure => simp [intOf]
        · rename World => A
          go_wp2_with fail
          go_loopw [7, 8] (fun lv iv wr => ∃ (i : Int) (n' c' : Nat) (la' : Option Addr), iv = .int .i64 i ∧ lv = .slice la' n' c' ∧ ((i = 0 ∧ la' = la ∧ n' = ln ∧ c' = lc ∧ wr = A) ∨ (∃ B, i = 1 ∧ A.heap.size ≤ B ∧ V.ThRow B wr (.slice la' n' c') ((insF F (pathN k, v)).map thOf) ∧ Below A.heap.size A wr))) (fun _ iv _ => 1 - (intOf iv).toNat)
          case atStart => exact ⟨0, _, _, _, rfl, rfl, .inl ⟨rfl, rfl, rfl, rfl, rfl⟩⟩
          case round =>
            obtain ⟨i, n', c', la', rfl, rfl, hrel⟩ := hrel
            rcases hrel with ⟨rfl, rfl, rfl, rfl, rfl⟩ | ⟨B, rfl, hB, hth, hbw⟩
            · rename World => A
              obtain ⟨y0, y1⟩ := HX.out A (Below.refl _ _)
              go_wp2_with fail
              go_region_held3 (fun W => W.cell? ⟨R, 0, none⟩ = some S ∧ W.cell? ⟨g, o, none⟩ = some (.string k) ∧ W.cell? ⟨g, o + 1, none⟩ = some (.string v)) (first | go_keep | (simp [*])) ((first
                | (go_at_call 21; refine (HHv.out _).mono ?_; rintro e w3 ⟨pa, pc, rfl, hps, hb3⟩; have HB3 : Hid (Below A.heap.size A w3) := (by first | exact hb3 | exact (Below.refl _ _).drew.trans hb3); have HPs := hide hps; obtain ⟨y03, y13⟩ := HX.out w3 HB3.out; have z03 : w3.cell? ⟨R, 0, none⟩ = some S := cell_of_row _ _ 0 _ _ (0, 0) (HR.out.keep HB3.out).box; clear hps hb3)
                | (go_at_call 20; refine (HPut.out _ _ _ HB3.out HPs.out).mono ?_; rintro e w4 ⟨rv, rfl, hr4, hb4⟩; obtain ⟨ra, rc, rfl⟩ := hr4.shape; have HB4 : Hid (Below A.heap.size A w4) := HB3.out.trans (hb4.mono HB3.out.size); have HR4 := hide hr4; obtain ⟨y04, y14⟩ := HX.out w4 HB4.out; have z04 : w4.cell? ⟨R, 0, none⟩ = some S := cell_of_row _ _ 0 _ _ (0, 0) (HR.out.keep HB4.out).box; clear hr4 hb4)))
              all_goals
                have h4 := HR4.out
                rw [List.length_map] at h4
                have HF4 := hide h4
                clear h4 HR4
                go_wp2
                go_roundw
                case rel => exact ⟨1, _, _, _, rfl, rfl, .inr ⟨w3.heap.size, rfl, HB3.out.size, HF4.out, HB4.out⟩⟩
                case measure => simp [intOf]
            · have HTh := hide hth
              have HBw := hide hbw
              have hbox := (HR.out.keep hbw).box
              have c1 : wr.cell? ⟨R, 1, none⟩ = some (.slice la ln lc) := cell_of_row _ _ 1 _ _ (0, 0) hbox
              have f1 : wr.frozen? ⟨R, 1, none⟩ = false := frozen_of_row _ _ 1 _ _ hbox
              clear hth hbw hbox
              go_wp2
              go_ret
              exact ⟨_, wr, rfl, rfl, HBw.out, HR.out.set HBw.out (B := B) (by have := HRl.out; omega) HTh.out HNe.out⟩
end Go.Proofs.YthdjmldddjljfaaGreatDoor
namespace Go.Proofs.YthdjmldddjljfaaGreatDoor
open Go.RowKit
attribute [local go_sem ↓] Go.wp_at_zero Go.wp_at_succ

set_option maxHeartbeats 4000000 in
set_option maxRecDepth 20000 in
theorem refGet_one (S lv : Value) (R : Nat) (k v : ByteArray) (w : World) (h : RTree w R S lv [(pathN k, v)]) (hk : k.size ≤ 64) :
    Calls Tryz.prog 35 #[.pointer (some ⟨R, 0, none⟩), .string k] w fun e w' => e = .returned (.tuple #[.string v, .int .i64 0]) ∧ Below w.heap.size w w' := by
  have hth : V.ThRow (R + 1) w lv [thOf (pathN k, v)] := by
    rcases h.list with ⟨h, _⟩ | ⟨_, h⟩
    · cases h
    · exact h
  obtain ⟨la, lc, rfl⟩ := hth.shape
  have hsh : V.Short [thOf (pathN k, v)] := short_map (F := [(pathN k, v)]) (fun z hz => by
    obtain rfl : z = (pathN k, v) := by simpa using hz
    simp only [pathN_length]; omega)
  have hnh : V.NoHash [thOf (pathN k, v)] := noHash_map [(pathN k, v)]
  have hP : (intsOf (pathN k)).length ≤ 100000 := by rw [path_len]; omega
  have HR := hide h
  have HAl := hide (fun pa pc W (hW : Below w.heap.size w W) hp => V.along_plain S (.slice la 1 lc) [thOf (pathN k, v)] (R + 1) pa pc (intsOf (pathN k)) W (hth.keep hW) hsh hnh hp hP (by show (1 : Nat) ≤ 10000000000; omega))
  have HAt := hide (fun pa pc W (hW : Below w.heap.size w W) hp => V.at_any (R + 1) (.slice la 1 lc) [thOf (pathN k, v)] pa pc (intsOf (pathN k)) W (hth.keep hW) hsh (by show (1 : Nat) ≤ 10000000000; omega) hp hP)
  have hat : V.atR [thOf (pathN k, v)] (intsOf (pathN k)) = 0 := by
    have e : V.atF (intsOf (pathN k)) (thOf (pathN k, v)) = true := by
      unfold V.atF thOf
      rw [Bool.and_eq_true]
      exact ⟨rfl, decide_eq_true rfl⟩
    simp [V.atR, e, List.findIdx_cons]
  rw [hat] at HAt
  have HHv := hide (fun W => halves_path k W (by omega))
  have HC : Hid (∀ W, Below w.heap.size w W → ∃ g, la = some ⟨g, 0, none⟩ ∧ W.cell? ⟨g, 1, none⟩ = some (.string v)) := fun W hW => by
    obtain ⟨g, cap, pa, pc, h1, h2, h3, h4, _⟩ := (hth.keep hW).cellAt 0 (by simp)
    obtain ⟨rfl, _⟩ : la = some ⟨g, 0, none⟩ ∧ lc = cap := by simpa using h1
    exact ⟨g, rfl, by simpa [thOf] using h4⟩
  have k1 : (k.size : Int) ≤ 64 := by omega
  have HZ : Hid (∀ W, Below w.heap.size w W → W.cell? ⟨R, 0, none⟩ = some S ∧ W.cell? ⟨R, 1, none⟩ = some (.slice la 1 lc)) := fun W hW => ⟨cell_of_row _ _ 0 _ _ (0, 0) (h.keep hW).box, cell_of_row _ _ 1 _ _ (0, 0) (h.keep hW).box⟩
  clear h hth hsh hnh hP hk hat
  simp only [List.length_cons, List.length_nil] at *
  go_enter Tryz.func35, Tryz.ntmps35
  go_wp2_with fail
  refine (HHv.out _).mono ?_
  rintro e w1 ⟨pa, pc, rfl, hps, hb1⟩
  have HB1 := hide hb1
  have HPs := hide hps
  obtain ⟨z0, z1⟩ := HZ.out w1 hb1
  clear hps hb1
  go_wp2_with fail
  go_region_held3 (fun W => W.cell? ⟨R, 0, none⟩ = some S ∧ W.cell? ⟨R, 1, none⟩ = some (.slice la 1 lc)) (first | go_keep | (simp [*])) ((go_at_call 49; refine (HAl.out _ _ _ (by first | exact HB1.out.drew | exact HB1.out) (by first | exact HPs.out | exact HPs.out.keep (V.KpI.of_below (Below.refl _ _).drew))).mono ?_; rintro e w3 ⟨rfl, hb3⟩; have HB3 : Hid (Below w1.heap.size w1 w3) := (by first | exact hb3 | exact (Below.refl _ _).drew.trans hb3); have HB3w : Hid (Below w.heap.size w w3) := HB1.out.trans (HB3.out.mono HB1.out.size); obtain ⟨z03, z13⟩ := HZ.out w3 HB3w.out; clear hb3))
  all_goals
    have HAt3 := hide (HAt.out pa pc w3 HB3w.out (HPs.out.keep (V.KpI.of_below HB3.out)))
    go_wp2_with fail
    refine HAt3.out.mono ?_
    rintro e w4 ⟨rfl, hb4⟩
    have HB4 : Hid (Below w.heap.size w w4) := HB3w.out.trans (hb4.mono HB3w.out.size)
    obtain ⟨g, rfl, y1⟩ := HC.out w4 HB4.out
    clear hb4
    go_wp2
    go_ret2
    exact ⟨rfl, HB4.out⟩
end Go.Proofs.YthdjmldddjljfaaGreatDoor
