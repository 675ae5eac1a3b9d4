/-
  OUR OWN: VxVrD.
-/
import Derived.Test.YthdjmldddjljfaaGreatDoorG28
namespace Go.Proofs.YthdjmldddjljfaaGreatDoor.V
open Go.RowKit

/-- what lies under a path: a value, or a hash that was not read -/
structure Th where
  path : List Int
  value : ByteArray
  hash : ByteArray
  under : Bool
def flatX : Nx → List Int → Bool → List Th
  | .nil => fun _ _ => []
  | .hash h => fun p u => [⟨p, eB, h, u⟩]
  | .leaf q v => fun p _ => [⟨p ++ q, v, eB, false⟩]
  | .ext q m => fun p _ => flatX m (p ++ q) true
  | .br c v => fun p _ => (if v.size = 0 then [] else [⟨p, v, eB, false⟩]) ++ (List.range 16).flatMap fun i => flatX (c i) (p ++ [(i : Int)]) false
theorem flat_ne : ∀ (n : Nx) (p : List Int) (u : Bool), n.WF → n.isNil = false → flatX n p u ≠ []
  | .nil, _, _, _, h => by cases h
  | .hash _, _, _, _, _ => by simp [flatX]
  | .leaf _ _, _, _, _, _ => by simp [flatX]
  | .ext q m, p, _, h, _ => by simp only [flatX]; exact flat_ne m _ _ h.1 h.2.1
  | .br c v, p, _, h, _ => by
    obtain ⟨h1, h2, _⟩ := h
    simp only [flatX]
    intro e
    rw [List.append_eq_nil_iff] at e
    obtain ⟨e1, e2⟩ := e
    unfold cntX at h2
    have hv : v.size = 0 := by
      split at e1
      · assumption
      · cases e1
    rw [if_pos hv] at h2
    cases hf : fullX c with
    | nil => rw [hf] at h2; simp at h2
    | cons i r =>
      have hi : i ∈ fullX c := by rw [hf]; exact List.mem_cons_self ..
      unfold fullX at hi
      rw [List.mem_filter] at hi
      rw [List.flatMap_eq_nil_iff] at e2
      refine flat_ne (c i) _ _ (h1 i) ?_ (e2 i hi.1)
      simpa using hi.2
/-- a thing on a path's way: its value, or a hash on the way to it -/
def onP (P : List Int) (x : Th) : Bool := if x.hash.size = 0 then x.path == P else x.path.isPrefixOf P
theorem onP_pre {P : List Int} {x : Th} (h : onP P x = true) : x.path <+: P := by
  unfold onP at h
  split at h
  · rw [beq_iff_eq] at h; rw [h]; exact List.prefix_refl _
  · exact List.isPrefixOf_iff_prefix.1 h
theorem flat_pre : ∀ (n : Nx) (p : List Int) (u : Bool) (x : Th), x ∈ flatX n p u → p <+: x.path
  | .nil, _, _, _, h => by simp [flatX] at h
  | .hash _, p, _, _, h => by simp only [flatX, List.mem_singleton] at h; subst h; exact List.prefix_refl _
  | .leaf q _, p, _, _, h => by simp only [flatX, List.mem_singleton] at h; subst h; exact List.prefix_append _ _
  | .ext q m, p, _, x, h => by
    simp only [flatX] at h
    exact (List.prefix_append p q).trans (flat_pre m _ _ x h)
  | .br c v, p, _, x, h => by
    simp only [flatX, List.mem_append, List.mem_flatMap] at h
    rcases h with h | ⟨i, _, h⟩
    · split at h
      · cases h
      · rw [List.mem_singleton] at h; subst h; exact List.prefix_refl _
    · exact (List.prefix_append p [(i : Int)]).trans (flat_pre (c i) _ _ x h)
theorem filt_off {n : Nx} {p P : List Int} {u : Bool} (h : ¬ p <+: P) : (flatX n p u).filter (onP P) = [] := by
  rw [List.filter_eq_nil_iff]
  intro x hx hon
  exact h ((flat_pre n p u x hx).trans (onP_pre hon))

inductive Out where
  | none | value (v : ByteArray) | hash (h : ByteArray) (q : List Int) (u : Bool)
def Out.pre (q : List Int) : Out → Out
  | .hash h q' u => .hash h (q ++ q') u
  | o => o
/-- the way of a path through a node -/
def walkX : Nx → List Int → Bool → Out
  | .nil => fun _ _ => .none
  | .hash h => fun _ u => .hash h [] u
  | .leaf q v => fun p _ => if q = p then .value v else .none
  | .ext q m => fun p _ => if q.isPrefixOf p then (walkX m (p.drop q.length) true).pre q else .none
  | .br c v => fun p _ => match p with
    | [] => if v.size = 0 then .none else .value v
    | i :: p => (walkX (c i.toNat) p false).pre [i]
def Out.things (pre P : List Int) : Out → List Th
  | .none => []
  | .value v => [⟨P, v, eB, false⟩]
  | .hash h q u => [⟨pre ++ q, eB, h, u⟩]
theorem things_pre (o : Out) (q pre P : List Int) : (o.pre q).things pre P = o.things (pre ++ q) P := by
  cases o <;> simp [Out.pre, Out.things]
theorem eB_size : eB.size = 0 := rfl
theorem flatMap_one {α : Type} (f : Nat → List α) (i n : Nat) (hi : i < n) (h : ∀ j, j < n → j ≠ i → f j = []) : (List.range n).flatMap f = f i := by
  induction n with
  | zero => omega
  | succ n ih =>
    rw [List.range_succ, List.flatMap_append]
    by_cases e : i = n
    · subst e
      have : (List.range i).flatMap f = [] := by
        rw [List.flatMap_eq_nil_iff]
        intro j hj
        rw [List.mem_range] at hj
        exact h j (by omega) (by omega)
      rw [this]; simp
    · rw [ih (by omega) (fun j hj hne => h j (by omega) hne)]
      simp [h n (by omega) (fun e' => e e'.symm)]
/-- of all that lies in a node one thing at most is on a path's way -/
theorem filt : ∀ (n : Nx) (p pre : List Int) (u : Bool), n.WF → (∀ i ∈ p, 0 ≤ i ∧ i < 16) → (flatX n pre u).filter (onP (pre ++ p)) = (walkX n p u).things pre (pre ++ p)
  | .nil, _, _, _, _, _ => by simp [flatX, walkX, Out.things]
  | .hash h, p, pre, u, hw, _ => by
    have h32 : h.size = 32 := hw
    have : onP (pre ++ p) ⟨pre, eB, h, u⟩ = true := by
      unfold onP
      simp only
      rw [if_neg (by omega), List.isPrefixOf_iff_prefix]
      exact List.prefix_append _ _
    simp [flatX, walkX, Out.things, this]
  | .leaf q v, p, pre, u, _, _ => by
    simp only [flatX, walkX]
    by_cases h : q = p
    · subst h
      have : onP (pre ++ q) ⟨pre ++ q, v, eB, false⟩ = true := by
        unfold onP; simp [eB, ByteArray.size]
      simp [this, Out.things]
    · have : onP (pre ++ p) ⟨pre ++ q, v, eB, false⟩ = false := by
        unfold onP
        simp only
        rw [if_pos eB_size, beq_eq_false_iff_ne]
        exact fun e => h (List.append_cancel_left e)
      simp [this, h, Out.things]
  | .ext q m, p, pre, u, hw, hp => by
    simp only [flatX, walkX]
    by_cases h : q.isPrefixOf p = true
    · obtain ⟨r, rfl⟩ := List.isPrefixOf_iff_prefix.1 h
      have ih := filt m r (pre ++ q) true hw.1 (fun i hi => hp i (List.mem_append_right _ hi))
      rw [if_pos h, things_pre, List.drop_left, ← List.append_assoc]
      exact ih
    · rw [if_neg h, filt_off]
      · rfl
      · intro hpr
        apply h
        rw [List.isPrefixOf_iff_prefix]
        exact (List.prefix_append_right_inj pre).1 hpr
  | .br c v, p, pre, u, hw, hp => by
    obtain ⟨h1, _, h3⟩ := hw
    simp only [flatX]
    rw [List.filter_append]
    cases p with
    | nil =>
      have hz : ((List.range 16).flatMap fun i => flatX (c i) (pre ++ [(i : Int)]) false).filter (onP (pre ++ [])) = [] := by
        rw [List.filter_flatMap, List.flatMap_eq_nil_iff]
        intro i _
        apply filt_off
        intro hpr
        have := hpr.length_le
        simp at this
        omega
      rw [hz]
      simp only [walkX]
      by_cases hv : v.size = 0
      · simp [hv, Out.things]
      · have : onP (pre ++ []) ⟨pre, v, eB, false⟩ = true := by
          unfold onP; simp [eB, ByteArray.size]
        rw [if_neg hv, if_neg hv]
        simp only [List.append_nil] at this ⊢
        simp [this, Out.things]
    | cons i p =>
      have hi := hp i (List.mem_cons_self ..)
      have hv : (if v.size = 0 then [] else [(⟨pre, v, eB, false⟩ : Th)]).filter (onP (pre ++ i :: p)) = [] := by
        by_cases hv : v.size = 0
        · simp [hv]
        · have : onP (pre ++ i :: p) ⟨pre, v, eB, false⟩ = false := by
            unfold onP
            simp only
            rw [if_pos eB_size, beq_eq_false_iff_ne]
            intro e
            have := congrArg List.length e
            simp at this
          rw [if_neg hv]
          simp [this]
      rw [hv, List.nil_append, List.filter_flatMap]
      have hin : ((i.toNat : Nat) : Int) = i := Int.toNat_of_nonneg hi.1
      rw [flatMap_one _ i.toNat 16 (by omega)]
      · have ih := filt (c i.toNat) p (pre ++ [i]) false (h1 _) (fun j hj => hp j (List.mem_cons_of_mem _ hj))
        simp only [walkX]
        rw [hin, things_pre, show pre ++ i :: p = pre ++ [i] ++ p from by simp]
        exact ih
      · intro j hj hne
        apply filt_off
        intro hpr
        have := (List.prefix_append_right_inj pre).1 hpr
        rw [List.cons_prefix_cons] at this
        omega

/-- what is told by texts that are read one after the other, from a hash on: of a path behind so many numbers -/
def goV (H : ByteArray → ByteArray) : List ByteArray → ByteArray → Nat → Bool → Bool → List Int → Option (Option ByteArray × List ByteArray)
  | [], _, _, _, _, _ => none
  | t :: ts, h, d, u, least, p =>
    if H t ≠ h ∨ 6000 < t.size then none else match parseF 33 t d with
      | none => none
      | some n => if (u = true ∧ n.isBr = false) ∨ (least = true ∧ t.size < 32) then none
        else match walkX n p false with
          | .none => some (none, ts)
          | .value v => some (some v, ts)
          | .hash h' q u' => goV H ts h' (d + q.length) u' true (p.drop q.length)
/-- all that lies in the node that a text is, if it may stand there -/
def openV (H : ByteArray → ByteArray) (t h : ByteArray) (p : List Int) (u least : Bool) : Option (List Th) :=
  if H t ≠ h ∨ 6000 < t.size then none else match parseF 33 t p.length with
    | none => none
    | some n => if (u = true ∧ n.isBr = false) ∨ (least = true ∧ t.size < 32) then none else some (flatX n p false)
def hashOn (P : List Int) (x : Th) : Bool := decide (x.hash.size ≠ 0) && x.path.isPrefixOf P
/-- every hash on a path's way read -/
def goL (H : ByteArray → ByteArray) (P : List Int) : List ByteArray → List Th → Option (List Th × List ByteArray)
  | [], L => if L.any (hashOn P) then none else some (L, [])
  | t :: ts, L => if L.any (hashOn P) then (match openV H t (L.getD (L.findIdx (hashOn P)) ⟨[], eB, eB, false⟩).hash (L.getD (L.findIdx (hashOn P)) ⟨[], eB, eB, false⟩).path (L.getD (L.findIdx (hashOn P)) ⟨[], eB, eB, false⟩).under true with
      | none => none
      | some m => goL H P ts (L.take (L.findIdx (hashOn P)) ++ m ++ L.drop (L.findIdx (hashOn P) + 1))) else some (L, t :: ts)
def valTh (P : List Int) (o : Option ByteArray) : List Th := match o with
  | none => []
  | some v => [⟨P, v, eB, false⟩]
theorem goL_stay {H : ByteArray → ByteArray} {P : List Int} {ts : List ByteArray} {L : List Th} (h : L.any (hashOn P) = false) : goL H P ts L = some (L, ts) := by
  cases ts <;> rw [goL, h] <;> rfl
theorem hashOn_on {P : List Int} {x : Th} (h : hashOn P x = true) : onP P x = true := by
  unfold hashOn at h
  rw [Bool.and_eq_true, decide_eq_true_eq] at h
  unfold onP
  rw [if_neg h.1]; exact h.2
theorem any_of_filter {P : List Int} {L : List Th} (h : ∀ x ∈ L.filter (onP P), x.hash.size = 0) : L.any (hashOn P) = false := by
  rw [List.any_eq_false]
  intro x hx hh
  have := h x (List.mem_filter.2 ⟨hx, hashOn_on hh⟩)
  unfold hashOn at hh
  rw [Bool.and_eq_true, decide_eq_true_eq] at hh
  exact hh.1 this
/-- where the one thing on the way lies -/
theorem find_one {P : List Int} {L : List Th} {x : Th} (h : L.filter (onP P) = [x]) (hx : x.hash.size ≠ 0) : L.any (hashOn P) = true ∧ L.getD (L.findIdx (hashOn P)) ⟨[], eB, eB, false⟩ = x ∧ (L.take (L.findIdx (hashOn P))).filter (onP P) = [] ∧ (L.drop (L.findIdx (hashOn P) + 1)).filter (onP P) = [] := by
  induction L with
  | nil => cases h
  | cons a r ih =>
    rw [List.filter_cons] at h
    by_cases ha : onP P a = true
    · rw [if_pos ha] at h
      simp only [List.cons.injEq] at h
      obtain ⟨rfl, h2⟩ := h
      have hh : hashOn P a = true := by
        unfold hashOn
        rw [Bool.and_eq_true, decide_eq_true_eq]
        refine ⟨hx, ?_⟩
        unfold onP at ha
        rwa [if_neg hx] at ha
      simp [List.findIdx_cons, hh, h2]
    · rw [if_neg ha] at h
      obtain ⟨i1, i2, i3, i4⟩ := ih h
      have hh : hashOn P a = false := by
        cases hb : hashOn P a with
        | false => rfl
        | true => exact absurd (hashOn_on hb) ha
      simp only [List.findIdx_cons, hh, cond_false, List.any_cons, Bool.false_or, List.take_succ_cons, List.drop_succ_cons]
      refine ⟨i1, by simpa using i2, ?_, i4⟩
      rw [List.filter_cons, if_neg ha]
      exact i3
theorem things_hash_wf : ∀ (n : Nx) (p : List Int) (u u' : Bool) (h : ByteArray) (q : List Int), n.WF → walkX n p u = .hash h q u' → h.size = 32 ∧ q <+: p
  | .nil, _, _, _, _, _, _, h => by simp [walkX] at h
  | .hash g, p, u, u', h, q, hw, e => by
    simp only [walkX, Out.hash.injEq] at e
    obtain ⟨rfl, rfl, _⟩ := e
    exact ⟨hw, List.nil_prefix⟩
  | .leaf q' v, p, u, u', h, q, hw, e => by
    simp only [walkX] at e
    split at e <;> cases e
  | .ext q' m, p, u, u', h, q, hw, e => by
    simp only [walkX] at e
    split at e
    · rename_i hq
      obtain ⟨r, rfl⟩ := List.isPrefixOf_iff_prefix.1 hq
      rw [List.drop_left] at e
      cases hm : walkX m r true with
      | none => rw [hm] at e; cases e
      | value v => rw [hm] at e; cases e
      | hash g q2 u2 =>
        rw [hm] at e
        simp only [Out.pre, Out.hash.injEq] at e
        obtain ⟨rfl, rfl, rfl⟩ := e
        obtain ⟨k1, k2⟩ := things_hash_wf m r true u2 g q2 hw.1 hm
        exact ⟨k1, (List.prefix_append_right_inj q').2 k2⟩
    · cases e
  | .br c v, p, u, u', h, q, hw, e => by
    cases p with
    | nil =>
      simp only [walkX] at e
      split at e <;> cases e
    | cons i p =>
      simp only [walkX] at e
      cases hm : walkX (c i.toNat) p false with
      | none => rw [hm] at e; cases e
      | value v => rw [hm] at e; cases e
      | hash g q2 u2 =>
        rw [hm] at e
        simp only [Out.pre, Out.hash.injEq] at e
        obtain ⟨rfl, rfl, rfl⟩ := e
        obtain ⟨k1, k2⟩ := things_hash_wf (c i.toNat) p false u2 g q2 (hw.1 _) hm
        exact ⟨k1, by rw [List.singleton_append, List.cons_prefix_cons]; exact ⟨rfl, k2⟩⟩
/-- both ways tell the same -/
theorem goL_goV (H : ByteArray → ByteArray) (P : List Int) (hP : ∀ i ∈ P, 0 ≤ i ∧ i < 16) : ∀ (ts : List ByteArray) (L : List Th) (x : Th), L.filter (onP P) = [x] → x.hash.size ≠ 0 → x.path <+: P →
    match goV H ts x.hash x.path.length x.under true (P.drop x.path.length) with
    | none => goL H P ts L = none
    | some (o, ts') => ∃ L', goL H P ts L = some (L', ts') ∧ L'.filter (onP P) = valTh P o
  | [], L, x, h, hx, hpre => by
    rw [goV]
    have := (find_one h hx).1
    simp [goL, this]
  | t :: ts, L, x, h, hx, hpre => by
    obtain ⟨f1, f2, f3, f4⟩ := find_one h hx
    rw [goV, goL, f1, f2, if_pos rfl]
    obtain ⟨r, rfl⟩ := hpre
    rw [List.drop_left]
    unfold openV
    by_cases hc : H t ≠ x.hash ∨ 6000 < t.size
    · rw [if_pos hc, if_pos hc]
    · rw [if_neg hc, if_neg hc]
      cases hp : parseF 33 t x.path.length with
      | none => rfl
      | some n =>
        simp only
        by_cases hd : (x.under = true ∧ n.isBr = false) ∨ (True ∧ t.size < 32)
        · rw [if_pos hd, if_pos hd]
        · rw [if_neg hd, if_neg hd]
          have hw := (parseF_WF 33 t _ n hp).1
          have hr : ∀ i ∈ r, 0 ≤ i ∧ i < 16 := fun i hi => hP i (List.mem_append_right _ hi)
          have hf := filt n r x.path false hw hr
          simp only
          generalize hL2 : L.take (L.findIdx (hashOn (x.path ++ r))) ++ flatX n x.path false ++ L.drop (L.findIdx (hashOn (x.path ++ r)) + 1) = L2
          have hf2 : L2.filter (onP (x.path ++ r)) = (walkX n r false).things x.path (x.path ++ r) := by
            rw [← hL2, List.filter_append, List.filter_append, f3, f4, hf]; simp
          cases hwk : walkX n r false with
          | none =>
            rw [hwk] at hf2
            refine ⟨L2, goL_stay (any_of_filter ?_), hf2⟩
            rw [hf2]; intro y hy; cases hy
          | value v =>
            rw [hwk] at hf2
            refine ⟨L2, goL_stay (any_of_filter ?_), hf2⟩
            rw [hf2]
            intro y hy
            simp only [Out.things, List.mem_singleton] at hy
            subst hy; rfl
          | hash h' q u' =>
            rw [hwk] at hf2
            obtain ⟨k1, k2⟩ := things_hash_wf n r false u' h' q hw hwk
            have ih := goL_goV H (x.path ++ r) hP ts L2 ⟨x.path ++ q, eB, h', u'⟩ hf2 (by simp only; omega) ((List.prefix_append_right_inj _).2 k2)
            simp only [List.length_append] at ih
            obtain ⟨r2, rfl⟩ := k2
            have e1 : List.drop (x.path.length + q.length) (x.path ++ (q ++ r2)) = r2 := by
              rw [← List.append_assoc, ← List.length_append, List.drop_left]
            rw [e1] at ih
            have e2 : List.drop q.length (q ++ r2) = r2 := List.drop_left
            simp only [e2]
            exact ih

/-- what Verify answers -/
def verV (H : ByteArray → ByteArray) (none0 root key : ByteArray) (ks : List Int) (proof : List ByteArray) : ByteArray × Bool × Int :=
  if 64 < key.size then (eB, false, 8)
  else if root = none0 then (if proof = [] then (eB, false, 0) else (eB, false, 13))
  else match goV H proof root 0 false false ks with
    | some (o, []) => (o.getD eB, o.isSome, 0)
    | _ => (eB, false, 13)
end Go.Proofs.YthdjmldddjljfaaGreatDoor.V
