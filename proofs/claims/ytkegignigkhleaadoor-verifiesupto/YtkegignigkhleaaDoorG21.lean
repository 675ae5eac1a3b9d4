/-
  OUR OWN: VrC VhA VhB VhC VqA.
-/
import Derived.Test.YtkegignigkhleaaDoorG20
import Derived.Test.YtkegignigkhleaaDoorG14
import Derived.Test.YtkegignigkhleaaDoorG19
import Derived.Test.YtkegignigkhleaaDoorG09
import Derived.Test.YtkegignigkhleaaDoorG04
namespace Go.Proofs.YtkegignigkhleaaDoor
open Go.RowKit

theorem unpV_len {l : List UInt8} {p : List Int} {lf : Bool} (h : unpL l = some (p, lf)) : p.length ≤ 128 := by
  cases l with
  | nil => simp [unpL] at h
  | cons b r =>
    have hl := nibs_length r
    simp only [unpL] at h
    split at h
    · split at h
      · rename_i hc
        simp only [Option.some.injEq, Prod.mk.injEq] at h
        rw [← h.1]; simp [hl]; omega
      · cases h
    · split at h
      · rename_i hc
        simp only [Option.some.injEq, Prod.mk.injEq] at h
        rw [← h.1, hl]; omega
      · cases h

def eB : ByteArray := ⟨#[]⟩
/-- a node, or what stands in a reference's place -/
inductive Nx where
  | nil | hash (h : ByteArray) | leaf (p : List Int) (v : ByteArray) | ext (p : List Int) (n : Nx) | br (c : Nat → Nx) (v : ByteArray)
def Nx.isNil : Nx → Bool
  | .nil => true
  | _ => false
def Nx.isHash : Nx → Bool
  | .hash _ => true
  | _ => false
def Nx.isBr : Nx → Bool
  | .br _ _ => true
  | _ => false
def fullX (c : Nat → Nx) : List Nat := (List.range 16).filter (fun i => !(c i).isNil)
def cntX (c : Nat → Nx) (v : ByteArray) : Nat := (if v.size = 0 then 0 else 1) + (fullX c).length

/-- a value at so many numbers -/
def pval (t : ByteArray) (d : Nat) : Option ByteArray := match txt t with
  | none => none
  | some v => if v.size ≤ 400 ∧ (v.size = 0 ∨ d % 2 = 0) then some v else none
def refF (P : ByteArray → Nat → Option Nx) (t : ByteArray) (d : Nat) : Option Nx := match txt t with
  | some b => if b.size = 0 then some .nil else if b.size = 32 then some (.hash b) else none
  | none => if 32 ≤ t.size then none else P t d
def kidsF (P : ByteArray → Nat → Option Nx) (ts : List ByteArray) (d i : Nat) : Nx := if i < 16 then (refF P (ts.getD i eB) (d + 1)).getD .nil else .nil
def extF (p : List Int) (o : Option Nx) : Option Nx := match o with
  | none => none
  | some n => if p = [] ∨ n.isNil = true ∨ (n.isHash = false ∧ n.isBr = false) then none else some (.ext p n)
def leafF (p : List Int) (o : Option ByteArray) : Option Nx := match o with
  | none => none
  | some v => if v.size = 0 then none else some (.leaf p v)
def pathedF (P : ByteArray → Nat → Option Nx) (a b : ByteArray) (d : Nat) : Option Nx := match txt a with
  | none => none
  | some pk => match unpL pk.data.toList with
    | none => none
    | some (p, lf) => if 128 < d + p.length then none else if lf then leafF p (pval b (d + p.length)) else extF p (refF P b (d + p.length))
def branchF (P : ByteArray → Nat → Option Nx) (ts : List ByteArray) (d : Nat) : Option Nx :=
  if 128 < d + 1 then none
  else if (List.range 16).all (fun i => (refF P (ts.getD i eB) (d + 1)).isSome) then (match pval (ts.getD 16 eB) d with
    | none => none
    | some v => if cntX (kidsF P ts d) v ≤ 1 then none else some (.br (kidsF P ts d) v))
  else none
/-- the node whose code a text is, at so many numbers -/
def parseF : Nat → ByteArray → Nat → Option Nx
  | 0, _, _ => none
  | f + 1, t, d => match itemsOf t with
    | none => none
    | some ts => if ts.length = 2 then pathedF (parseF f) (ts.getD 0 eB) (ts.getD 1 eB) d else if ts.length = 17 then branchF (parseF f) ts d else none

/-- what a node that was read is -/
def Nx.WF : Nx → Prop
  | .nil => True
  | .hash h => h.size = 32
  | .leaf p v => v.size ≠ 0 ∧ p.length ≤ 128
  | .ext p n => n.WF ∧ n.isNil = false ∧ p ≠ [] ∧ p.length ≤ 128
  | .br c v => (∀ i, (c i).WF) ∧ 1 < cntX c v ∧ ∀ i, 16 ≤ i → c i = .nil
theorem refF_cases {P : ByteArray → Nat → Option Nx} {t : ByteArray} {d : Nat} {n : Nx} (h : refF P t d = some n) : (∃ b, txt t = some b ∧ ((b.size = 0 ∧ n = .nil) ∨ (b.size = 32 ∧ n = .hash b))) ∨ (txt t = none ∧ t.size < 32 ∧ P t d = some n) := by
  unfold refF at h
  split at h
  · rename_i b e
    refine .inl ⟨b, e, ?_⟩
    split at h
    · rename_i h0; injection h with h; exact .inl ⟨h0, h.symm⟩
    · split at h
      · rename_i h0; injection h with h; exact .inr ⟨h0, h.symm⟩
      · cases h
  · rename_i e
    split at h
    · cases h
    · exact .inr ⟨e, by omega, h⟩
theorem refF_WF {P : ByteArray → Nat → Option Nx} (hP : ∀ t d n, P t d = some n → n.WF) {t : ByteArray} {d : Nat} {n : Nx} (h : refF P t d = some n) : n.WF := by
  rcases refF_cases h with ⟨b, _, (⟨_, rfl⟩ | ⟨k, rfl⟩)⟩ | ⟨_, _, k⟩
  · trivial
  · exact k
  · exact hP _ _ _ k
theorem parseF_WF : ∀ (f : Nat) (t : ByteArray) (d : Nat) (n : Nx), parseF f t d = some n → n.WF ∧ n.isNil = false ∧ n.isHash = false
  | 0, _, _, _, h => by cases h
  | f + 1, t, d, n, h => by
    have ih := fun t d n h => (parseF_WF f t d n h).1
    rw [parseF] at h
    split at h
    · cases h
    · rename_i ts e
      split at h
      · unfold pathedF at h
        split at h
        · cases h
        · split at h
          · cases h
          · rename_i p lf hu
            have hpl := unpV_len hu
            split at h
            · cases h
            · split at h
              · unfold leafF at h
                split at h
                · cases h
                · split at h
                  · cases h
                  · rename_i h0; injection h with h; subst h; exact ⟨⟨h0, hpl⟩, rfl, rfl⟩
              · unfold extF at h
                split at h
                · cases h
                · rename_i m hm
                  split at h
                  · cases h
                  · rename_i hc
                    injection h with h; subst h
                    refine ⟨⟨refF_WF ih hm, ?_, fun e => hc (.inl e), hpl⟩, rfl, rfl⟩
                    cases hh : m.isNil with
                    | false => rfl
                    | true => exact absurd (.inr (.inl hh)) hc
      · split at h
        · unfold branchF at h
          split at h
          · cases h
          · split at h
            · rename_i hall
              split at h
              · cases h
              · split at h
                · cases h
                · rename_i hc
                  injection h with h; subst h
                  refine ⟨⟨fun i => ?_, by omega, fun i hi => ?_⟩, rfl, rfl⟩
                  · unfold kidsF
                    split
                    · rename_i hi
                      rw [List.all_eq_true] at hall
                      have := hall i (List.mem_range.2 hi)
                      cases hr : refF (parseF f) (ts.getD i eB) (d + 1) with
                      | none => trivial
                      | some m => exact refF_WF ih hr
                    · trivial
                  · unfold kidsF; rw [if_neg (by omega)]
            · cases h
        · cases h

/-- what can be read inside of more lists can be read inside of fewer -/
theorem RdB.up : ∀ {r : Nat} {t : ByteArray} {q : List Prt}, RdB r t q → RdB (r + 1) t q
  | 0, _, _, h => .inl h
  | _ + 1, _, _, .inl h => .inl h
  | _ + 1, _, _, .inr ⟨ts, qs, h1, h2, h3⟩ => .inr ⟨ts, qs, h1, h2.mono (fun _ _ h => RdB.up h), h3⟩
def Can (r : Nat) (t : ByteArray) : Prop := ∃ q, RdB r t q
theorem Can.up {r : Nat} {t : ByteArray} (h : Can r t) : Can (r + 1) t := by obtain ⟨q, h⟩ := h; exact ⟨q, h.up⟩
theorem Can.le {r : Nat} {t : ByteArray} (h : Can r t) : ∀ {k : Nat}, r ≤ k → Can k t
  | 0, hk => by obtain rfl : r = 0 := by omega
                exact h
  | k + 1, hk => by
    by_cases e : r = k + 1
    · subst e; exact h
    · exact (h.le (k := k) (by omega)).up
theorem can_txt {t b : ByteArray} (h : txt t = some b) (r : Nat) : Can r t := by
  cases r with
  | zero => exact ⟨_, b, h, rfl⟩
  | succ r => exact ⟨_, .inl ⟨b, h, rfl⟩⟩
theorem al_ex {r : Nat} : ∀ {ts : List ByteArray}, (∀ t ∈ ts, Can r t) → ∃ qs, Al (RdB r) ts qs
  | [], _ => ⟨[], .nil⟩
  | t :: ts, h => by
    obtain ⟨q, hq⟩ := h t (List.mem_cons_self ..)
    obtain ⟨qs, hqs⟩ := al_ex (fun t ht => h t (List.mem_cons_of_mem _ ht))
    exact ⟨q :: qs, .cons hq hqs⟩
theorem can_items {r : Nat} {t : ByteArray} {ts : List ByteArray} (h : itemsOf t = some ts) (hc : ∀ u ∈ ts, Can r u) : Can (r + 1) t := by
  obtain ⟨qs, hqs⟩ := al_ex hc
  exact ⟨_, .inr ⟨ts, qs, h, hqs, rfl⟩⟩
theorem txt_size {t b : ByteArray} (h : txt t = some b) : b.size ≤ t.size := by
  unfold txt at h
  split at h
  · split at h
    · injection h with h; rw [← h, ByteArray.size_extract]; omega
    · cases h
  · cases h
theorem getD_mem {l : List ByteArray} {i : Nat} (h : i < l.length) : l.getD i eB ∈ l := by
  rw [List.getD_eq_getElem?_getD, List.getElem?_eq_getElem h]
  exact List.getElem_mem h
theorem mem_getD {l : List ByteArray} {u : ByteArray} (h : u ∈ l) : ∃ i, i < l.length ∧ l.getD i eB = u := by
  obtain ⟨i, hi, e⟩ := List.getElem_of_mem h
  exact ⟨i, hi, by rw [List.getD_eq_getElem?_getD, List.getElem?_eq_getElem hi]; exact e⟩
/-- what the items of a node are, as far as reading goes -/
theorem parse_items {f : Nat} {t : ByteArray} {d : Nat} {n : Nx} (h : parseF (f + 1) t d = some n) : ∃ ts, itemsOf t = some ts ∧ ((ts.length = 17 ∧ n.isBr = true) ∨ (ts.length = 2 ∧ n.isBr = false)) ∧
    (∀ u ∈ ts, (∃ b, txt u = some b) ∨ (u.size < 32 ∧ ∃ d' m, parseF f u d' = some m ∧ (ts.length = 2 → m.isBr = true))) ∧ (ts.length = 2 → (∀ u ∈ ts, ∃ b, txt u = some b) ∨ 18 ≤ t.size) := by
  rw [parseF] at h
  split at h
  · cases h
  · rename_i ts e
    refine ⟨ts, e, ?_⟩
    have hss := itemsOf_sizes e
    split at h
    · rename_i h2
      unfold pathedF at h
      have hm : ∀ u ∈ ts, u = ts.getD 0 eB ∨ u = ts.getD 1 eB := by
        intro u hu
        obtain ⟨i, hi, e⟩ := mem_getD hu
        have : i = 0 ∨ i = 1 := by omega
        rcases this with rfl | rfl
        · exact .inl e.symm
        · exact .inr e.symm
      split at h
      · cases h
      · rename_i pk hpk
        split at h
        · cases h
        · split at h
          · cases h
          · split at h
            · unfold leafF at h
              split at h
              · cases h
              · rename_i v hv
                split at h
                · cases h
                · injection h with h; subst h
                  unfold pval at hv
                  split at hv
                  · cases hv
                  · rename_i b hb
                    have hall : ∀ u ∈ ts, ∃ b, txt u = some b := fun u hu => by
                      rcases hm u hu with rfl | rfl
                      · exact ⟨_, hpk⟩
                      · exact ⟨_, hb⟩
                    exact ⟨.inr ⟨h2, rfl⟩, fun u hu => .inl (hall u hu), fun _ => .inl hall⟩
            · unfold extF at h
              split at h
              · cases h
              · rename_i m hr
                split at h
                · cases h
                · rename_i hc
                  injection h with h; subst h
                  rcases refF_cases hr with ⟨b, hb, _⟩ | ⟨h1, h3, h4⟩
                  · have hall : ∀ u ∈ ts, ∃ b, txt u = some b := fun u hu => by
                      rcases hm u hu with rfl | rfl
                      · exact ⟨_, hpk⟩
                      · exact ⟨_, hb⟩
                    exact ⟨.inr ⟨h2, rfl⟩, fun u hu => .inl (hall u hu), fun _ => .inl hall⟩
                  · have hbr : m.isBr = true := by
                      have hw := parseF_WF f _ _ _ h4
                      cases hb : m.isBr with
                      | true => rfl
                      | false => exact absurd (.inr (.inr ⟨hw.2.2, hb⟩)) hc
                    refine ⟨.inr ⟨h2, rfl⟩, fun u hu => ?_, fun _ => .inr ?_⟩
                    · rcases hm u hu with rfl | rfl
                      · exact .inl ⟨_, hpk⟩
                      · exact .inr ⟨h3, _, m, h4, fun _ => hbr⟩
                    · have hb17 : 17 < (ts.getD 1 eB).size := by
                        cases f with
                        | zero => cases h4
                        | succ f =>
                          rw [parseF] at h4
                          split at h4
                          · cases h4
                          · rename_i us eu
                            have hsu := itemsOf_sizes eu
                            have h17 : us.length = 17 := by
                              split at h4
                              · unfold pathedF at h4
                                split at h4
                                · cases h4
                                · split at h4
                                  · cases h4
                                  · split at h4
                                    · cases h4
                                    · split at h4
                                      · unfold leafF at h4
                                        split at h4
                                        · cases h4
                                        · split at h4
                                          · cases h4
                                          · injection h4 with h4; subst h4; cases hbr
                                      · unfold extF at h4
                                        split at h4
                                        · cases h4
                                        · split at h4
                                          · cases h4
                                          · injection h4 with h4; subst h4; cases hbr
                              · split at h4
                                · assumption
                                · cases h4
                            have hge : ∀ l : List ByteArray, (∀ u ∈ l, 0 < u.size) → l.length ≤ (l.map (·.size)).sum := by
                              intro l
                              induction l with
                              | nil => intro _; simp
                              | cons a r ih =>
                                intro hl
                                have h1 := hl a (List.mem_cons_self ..)
                                have h2 := ih (fun u hu => hl u (List.mem_cons_of_mem _ hu))
                                simp only [List.length_cons, List.map_cons, List.sum_cons]; omega
                            have := hge us hsu.2
                            omega
                      have := itemsOf_lt e (getD_mem (i := 1) (by omega))
                      omega
    · split at h
      · rename_i h17
        unfold branchF at h
        split at h
        · cases h
        · split at h
          · rename_i hall
            rw [List.all_eq_true] at hall
            split at h
            · cases h
            · rename_i v hv
              split at h
              · cases h
              · injection h with h; subst h
                refine ⟨.inl ⟨h17, rfl⟩, fun u hu => ?_, fun h => by omega⟩
                obtain ⟨i, hi, rfl⟩ := mem_getD hu
                by_cases hi16 : i < 16
                · have := hall i (List.mem_range.2 hi16)
                  cases hr : refF (parseF f) (ts.getD i eB) (d + 1) with
                  | none => rw [hr] at this; cases this
                  | some m =>
                    rcases refF_cases hr with ⟨b, hb, _⟩ | ⟨h1, h3, h4⟩
                    · exact .inl ⟨b, hb⟩
                    · exact .inr ⟨h3, _, m, h4, fun h => by omega⟩
                · obtain rfl : i = 16 := by omega
                  unfold pval at hv
                  split at hv
                  · cases hv
                  · rename_i b hb; exact .inl ⟨b, hb⟩
          · cases h
      · cases h
theorem sum_split : ∀ {l : List ByteArray} {u : ByteArray}, u ∈ l → (∀ x ∈ l, 0 < x.size) → u.size + l.length ≤ (l.map (·.size)).sum + 1
  | a :: r, u, hu, hl => by
    have h1 := hl a (List.mem_cons_self ..)
    have hr : ∀ x ∈ r, 0 < x.size := fun x hx => hl x (List.mem_cons_of_mem _ hx)
    have hge : ∀ l : List ByteArray, (∀ u ∈ l, 0 < u.size) → l.length ≤ (l.map (·.size)).sum := by
      intro l
      induction l with
      | nil => intro _; simp
      | cons a r ih =>
        intro hl
        have h1 := hl a (List.mem_cons_self ..)
        have h2 := ih (fun u hu => hl u (List.mem_cons_of_mem _ hu))
        simp only [List.length_cons, List.map_cons, List.sum_cons]; omega
    simp only [List.length_cons, List.map_cons, List.sum_cons]
    rcases List.mem_cons.1 hu with rfl | hu
    · have := hge r hr; omega
    · have := sum_split hu hr; omega
theorem can_small {f : Nat} {t : ByteArray} {d : Nat} {n : Nx} (h : parseF f t d = some n) (ht : t.size ≤ 14) : Can 1 t := by
  cases f with
  | zero => cases h
  | succ f =>
    obtain ⟨ts, e, hk, hu, h2⟩ := parse_items h
    have hs := itemsOf_sizes e
    rcases hk with ⟨h17, _⟩ | ⟨hl2, _⟩
    · obtain ⟨u, hu0⟩ : ∃ u, u ∈ ts := ⟨_, getD_mem (i := 0) (by omega)⟩
      have := sum_split hu0 hs.2
      have := hs.2 u hu0
      omega
    · rcases h2 hl2 with hall | hge
      · exact can_items e (fun u hm => by obtain ⟨b, hb⟩ := hall u hm; exact can_txt hb 0)
      · omega
theorem can_mid {f : Nat} {t : ByteArray} {d : Nat} {n : Nx} (h : parseF f t d = some n) (ht : t.size < 32) (hb : n.isBr = true) : Can 2 t := by
  cases f with
  | zero => cases h
  | succ f =>
    obtain ⟨ts, e, hk, hu, h2⟩ := parse_items h
    have hs := itemsOf_sizes e
    rcases hk with ⟨h17, _⟩ | ⟨_, hn⟩
    · refine can_items e (fun u hm => ?_)
      rcases hu u hm with ⟨b, hb⟩ | ⟨h1, d', m, h3, _⟩
      · exact can_txt hb 1
      · exact can_small h3 (by have := sum_split hm hs.2; omega)
    · rw [hb] at hn; cases hn
theorem can_less {f : Nat} {t : ByteArray} {d : Nat} {n : Nx} (h : parseF f t d = some n) (ht : t.size < 32) : Can 3 t := by
  cases hb : n.isBr with
  | true => exact (can_mid h ht hb).up
  | false =>
    cases f with
    | zero => cases h
    | succ f =>
      obtain ⟨ts, e, hk, hu, h2⟩ := parse_items h
      have hs := itemsOf_sizes e
      rcases hk with ⟨_, hn⟩ | ⟨hl2, _⟩
      · rw [hb] at hn; cases hn
      · refine can_items e (fun u hm => ?_)
        rcases hu u hm with ⟨b, hb⟩ | ⟨h1, d', m, h3, h4⟩
        · exact can_txt hb 2
        · exact can_mid h3 h1 (h4 hl2)
/-- a node's code can be read -/
theorem can_all {f : Nat} {t : ByteArray} {d : Nat} {n : Nx} (h : parseF f t d = some n) : Can 8 t := by
  cases f with
  | zero => cases h
  | succ f =>
    obtain ⟨ts, e, hk, hu, h2⟩ := parse_items h
    refine (can_items (r := 3) e (fun u hm => ?_)).le (by omega)
    rcases hu u hm with ⟨b, hb⟩ | ⟨h1, d', m, h3, _⟩
    · exact can_txt hb 3
    · exact can_less h3 h1
end Go.Proofs.YtkegignigkhleaaDoor
namespace Go.Proofs.YtkegignigkhleaaDoor
open Go.RowKit
attribute [local go_sem ↓] Go.wp_at_zero Go.wp_at_succ

/-- the k lowest bytes, the lowest first -/
def leN : Nat → Nat → List Int
  | 0, _ => []
  | k + 1, n => ((n % 256 : Nat) : Int) :: leN k (n / 256)
/-- how many bytes a length has -/
def cntB (n : Nat) : Nat := if n = 0 then 0 else if n < 256 then 1 else if n < 65536 then 2 else if n < 16777216 then 3 else if n < 4294967296 then 4 else if n < 1099511627776 then 5 else if n < 281474976710656 then 6 else 7
/-- a length's bytes, the highest first -/
def lenS (n : Nat) : List Int := (leN (cntB n) n).reverse
theorem leN_length : ∀ k n, (leN k n).length = k
  | 0, _ => rfl
  | k + 1, n => by simp [leN, leN_length k]
theorem leN_snoc : ∀ k n, leN (k + 1) n = leN k n ++ [((n / 256 ^ k % 256 : Nat) : Int)]
  | 0, n => by simp [leN]
  | k + 1, n => by
    rw [leN, leN_snoc k (n / 256), leN]
    simp [Nat.pow_succ, Nat.div_div_eq_div_mul, Nat.mul_comm]
theorem cntB_cases (n : Nat) : (n = 0 ∧ cntB n = 0) ∨ (0 < n ∧ n < 256 ∧ cntB n = 1) ∨ (256 ≤ n ∧ n < 65536 ∧ cntB n = 2) ∨ (65536 ≤ n ∧ n < 16777216 ∧ cntB n = 3) ∨ (16777216 ≤ n ∧ n < 4294967296 ∧ cntB n = 4) ∨ (4294967296 ≤ n ∧ n < 1099511627776 ∧ cntB n = 5) ∨ (1099511627776 ≤ n ∧ n < 281474976710656 ∧ cntB n = 6) ∨ (281474976710656 ≤ n ∧ cntB n = 7) := by
  unfold cntB
  split
  · omega
  · split
    · omega
    · split
      · omega
      · split
        · omega
        · split
          · omega
          · split
            · omega
            · split <;> omega
theorem cntB_le7 (n : Nat) : cntB n ≤ 7 := by have := cntB_cases n; omega
theorem cntB_le3 (n : Nat) (h : n < 16777216) : cntB n ≤ 3 := by have := cntB_cases n; omega
theorem cntB_lt (n j : Nat) (hn : n < 72057594037927936) : j < cntB n ↔ 0 < n / 256 ^ j := by
  have hc := cntB_cases n
  match j with
  | 0 => simp only [Nat.pow_zero, Nat.div_one]; omega
  | 1 => rw [show 256 ^ 1 = 256 from rfl]; omega
  | 2 => rw [show 256 ^ 2 = 65536 from rfl]; omega
  | 3 => rw [show 256 ^ 3 = 16777216 from rfl]; omega
  | 4 => rw [show 256 ^ 4 = 4294967296 from rfl]; omega
  | 5 => rw [show 256 ^ 5 = 1099511627776 from rfl]; omega
  | 6 => rw [show 256 ^ 6 = 281474976710656 from rfl]; omega
  | j + 7 =>
    have : n / 256 ^ (j + 7) = 0 := by
      apply Nat.div_eq_of_lt
      have : 256 ^ 7 ≤ 256 ^ (j + 7) := Nat.pow_le_pow_right (by decide) (by omega)
      omega
    rw [this]
    have := cntB_le7 n
    omega
theorem u8_of (n : Nat) : IntKind.u8.wrap (n : Int) = ((n % 256 : Nat) : Int) := by
  rw [IntKind.wrap_u8]; omega

theorem strOfNums_size (l : List Int) : (strOfNums l).size = l.length := by
  simp [strOfNums, ByteArray.size]
theorem lenS_length (n : Nat) : (lenS n).length = cntB n := by simp [lenS, leN_length]

/-- the first bytes of a code -/
def hdr (mark n : Nat) : List Int := if n ≤ 55 then [((mark + n : Nat) : Int)] else ((mark + 55 + cntB n : Nat) : Int) :: lenS n
def headS (mark : Nat) (s : ByteArray) : ByteArray := strOfNums (hdr mark s.size) ++ s
theorem conv_new (w : World) (x : Int) : (convert 91 9 (.slice (some ⟨w.heap.size, 0, none⟩) 1 1)).run Tryd.prog (w.alloc (.cells #[.int .u8 x] 5)) = .ok (.string (strOfNums [x])) (w.alloc (.cells #[.int .u8 x] 5)) := by
  have h := World.ownsRow_made (base := w.heap.size) (e := 5) (size := 1) w #[.int .u8 x] 1 (Nat.le_refl _) (by unfold maxLen; omega) rfl
  refine run_convert_bytes_arg (P := Tryd.prog) _ 91 5 Tryd.underlying91 Tryd.underlying5 w.heap.size 0 1 1 [x] rfl ?_ 9 Tryd.underlying9
  intro i hi
  obtain rfl : i = 0 := by simpa using hi
  rw [World.cell?_alloc_new (w := w) #[.int .u8 x] 5 0]
  rfl

/-- the code of bytes -/
def textC (s : ByteArray) : ByteArray := if ownC s then s else headS 128 s
/-- the code of a list -/
def joinB (cs : List ByteArray) : ByteArray := ⟨(cs.flatMap (·.data.toList)).toArray⟩
def listC (cs : List ByteArray) : ByteArray := headS 192 (joinB cs)
def totS (cs : List ByteArray) : Nat := (cs.map (·.size)).sum
theorem hdr_length (mark n : Nat) : (hdr mark n).length ≤ 8 := by
  unfold hdr; split
  · simp
  · have := cntB_le7 n
    simp [lenS_length]; omega
theorem headS_size (mark : Nat) (s : ByteArray) : (headS mark s).size ≤ s.size + 8 := by
  unfold headS
  rw [ByteArray.size_append, strOfNums_size]
  have := hdr_length mark s.size
  omega
theorem textC_size (s : ByteArray) : (textC s).size ≤ s.size + 8 := by
  unfold textC; split
  · omega
  · exact headS_size _ _
theorem textC_ge (s : ByteArray) : s.size ≤ (textC s).size := by
  unfold textC; split
  · omega
  · unfold headS; rw [ByteArray.size_append]; omega
theorem joinB_size (cs : List ByteArray) : (joinB cs).size = totS cs := by
  have e : (joinB cs).size = (cs.flatMap (fun x => x.data.toList)).length := by show (List.toArray _).size = _; rw [List.size_toArray]
  rw [e]
  unfold totS
  induction cs with
  | nil => rfl
  | cons x r ih => simp only [List.flatMap_cons, List.length_append, List.map_cons, List.sum_cons, ih (by show (List.toArray _).size = _; rw [List.size_toArray])]; rfl
theorem listC_size (cs : List ByteArray) : (listC cs).size ≤ totS cs + 8 := by
  unfold listC
  have := headS_size 192 (joinB cs)
  rw [joinB_size] at this
  exact this
theorem totS_append (a b : List ByteArray) : totS (a ++ b) = totS a + totS b := by simp [totS]
theorem totS_cons (x : ByteArray) (r : List ByteArray) : totS (x :: r) = x.size + totS r := by simp [totS]

theorem joinB_snoc (cs : List ByteArray) (c : ByteArray) : joinB (cs ++ [c]) = joinB cs ++ c := by
  apply ByteArray.ext
  rw [ByteArray.data_append]
  simp [joinB]
theorem cntB_pow (n j : Nat) (hn : n < 72057594037927936) : j < cntB n ↔ 256 ^ j ≤ n := by
  rw [cntB_lt n j hn]
  have hp : 0 < 256 ^ j := Nat.pow_pos (by decide)
  constructor
  · intro h
    exact (Nat.one_le_div_iff hp).1 h
  · intro h
    exact (Nat.one_le_div_iff hp).2 h
theorem leN_getD : ∀ (k n j : Nat), j < k → (leN k n).getD j 0 = ((n / 256 ^ j % 256 : Nat) : Int)
  | k + 1, n, 0, _ => by simp [leN]
  | k + 1, n, j + 1, h => by
    have := leN_getD k (n / 256) j (by omega)
    simp only [leN, List.getD_cons_succ, this, Nat.div_div_eq_div_mul, Nat.pow_succ]
    rw [Nat.mul_comm 256]
theorem lenS_getD (n t : Nat) (h : t < cntB n) : (lenS n).getD t 0 = ((n / 256 ^ (cntB n - 1 - t) % 256 : Nat) : Int) := by
  unfold lenS
  have hl := leN_length (cntB n) n
  rw [List.getD_eq_getElem?_getD, List.getElem?_reverse (by omega), hl, ← List.getD_eq_getElem?_getD]
  exact leN_getD _ _ _ (by omega)
theorem take_snocD (l : List Int) (k : Nat) (h : k < l.length) : (l.take (k + 1)).map (Value.int .u8) = (l.take k).map (Value.int .u8) ++ [.int .u8 (l.getD k 0)] := by
  have e : l.getD k 0 = l[k] := by simp [List.getD_eq_getElem?_getD, h]
  rw [e, List.take_succ_eq_append_getElem h, List.map_append]; rfl

set_option maxHeartbeats 1000000 in
set_option maxRecDepth 20000 in
theorem refAhead_any (mark n : Nat) (w : World) (hm : mark ≤ 192) (hn : n < 72057594037927936) :
    Calls Tryd.prog 69 #[.int .i64 (mark : Int), .int .i64 (n : Int)] w fun e w' => e = .returned (.string (strOfNums (hdr mark n))) ∧ Below w.heap.size w w' := by
  obtain ⟨i0, hi, hz0, hz1, hz2⟩ := info_parts info5
  by_cases h2 : n ≤ 55
  · have c2 : (n : Int) ≤ 55 := by omega
    have c3 : (mark : Int) ≤ 192 := by omega
    have hcv := conv_new w ((mark : Int) + (n : Int))
    have HE : Hid (hdr mark n = [(mark : Int) + (n : Int)]) := by show _ = _; unfold hdr; rw [if_pos h2]; simp
    go_enter Tryd.func69, Tryd.ntmps69
    go_wp2
    go_ret
    exact ⟨by rw [HE.out]; rfl, below_alloc _ _⟩
  · have c2 : 55 < (n : Int) := by omega
    have c3 : (mark : Int) ≤ 192 := by omega
    have HE : Hid (hdr mark n = ((mark : Int) + 55 + (cntB n : Int)) :: lenS n) := by show _ = _; unfold hdr; rw [if_neg h2]; simp
    have hK := cntB_le7 n
    have HN := hide hn
    have hL := lenS_length n
    go_enter Tryd.func69, Tryd.ntmps69
    go_wp2
    go_loop [6, 7] (fun bv kv => ∃ j : Nat, j ≤ cntB n ∧ bv = .int .i64 ((256 ^ j : Nat) : Int) ∧ kv = .int .i64 (j : Int)) (fun _ kv => cntB n + 1 - (intOf kv).toNat)
    case atStart => exact ⟨0, Nat.zero_le _, rfl, rfl⟩
    case round =>
      obtain ⟨j, hj, rfl, rfl⟩ := hrel
      have hiff := cntB_pow n j (by have := HN.out; omega)
      have hpl : 256 ^ j ≤ 72057594037927936 := by
        have : 256 ^ j ≤ 256 ^ 7 := Nat.pow_le_pow_right (by decide) (by omega)
        omega
      by_cases hlt : j < cntB n
      · have h1 := hiff.1 hlt
        have hp6 : 256 ^ j ≤ 281474976710656 := by
          have : 256 ^ j ≤ 256 ^ 6 := Nat.pow_le_pow_right (by decide) (by omega)
          omega
        have HD : Hid (256 ^ (j + 1) = 256 * 256 ^ j) := by show _ = _; rw [Nat.pow_succ, Nat.mul_comm]
        clear hiff
        generalize 256 ^ j = X at *
        have e1 : (X : Int) ≤ (n : Int) := by omega
        have e2 : (X : Int) ≤ 281474976710656 := by omega
        have j3 : (j : Int) ≤ 7 := by omega
        clear hpl hp6 h1 hn
        go_wp2
        go_round
        case rel => exact ⟨j + 1, by omega, by rw [HD.out]; go_num, by go_num⟩
        case measure => simp [intOf]; omega
      · obtain rfl : j = cntB n := by omega
        have h1 : n < 256 ^ cntB n := by
          rcases Nat.lt_or_ge n (256 ^ cntB n) with h | h
          · exact h
          · exact absurd (hiff.2 h) hlt
        clear hiff
        have e1 : (n : Int) < ((256 ^ cntB n : Nat) : Int) := by omega
        have HP : Hid (∀ t, t < cntB n → 256 ^ (cntB n - t) = 256 * 256 ^ (cntB n - (t + 1)) ∧ 1 ≤ 256 ^ (cntB n - (t + 1)) ∧ 256 ^ (cntB n - (t + 1)) ≤ 281474976710656) := by
          intro t ht
          refine ⟨?_, Nat.pow_pos (by decide), ?_⟩
          · rw [show cntB n - t = (cntB n - (t + 1)) + 1 from by omega, Nat.pow_succ, Nat.mul_comm]
          · have : 256 ^ (cntB n - (t + 1)) ≤ 256 ^ 6 := Nat.pow_le_pow_right (by decide) (by omega)
            omega
        have HG : Hid (∀ t, t < cntB n → (lenS n).getD t 0 = ((n / 256 ^ (cntB n - (t + 1)) % 256 : Nat) : Int)) := by
          intro t ht
          rw [lenS_getD n t ht, show cntB n - 1 - t = cntB n - (t + 1) from by omega]
        have HT : Hid (∀ t, t < cntB n → ((lenS n).take (t + 1)).map (Value.int .u8) = ((lenS n).take t).map (Value.int .u8) ++ [.int .u8 ((lenS n).getD t 0)]) := fun t ht => take_snocD _ _ (by omega)
        have HTL : Hid ((lenS n).take (cntB n) = lenS n) := by show _ = _; rw [← hL]; exact List.take_length
        have HP0 : Hid (((256 ^ cntB n : Nat) : Int) = ((256 ^ (cntB n - 0) : Nat) : Int)) := rfl
        generalize hX : 256 ^ cntB n = X at *
        have HX := hide hX
        generalize cntB n = K at *
        generalize lenS n = LS at *
        clear hX hpl
        have hKI : (K : Int) ≤ 7 := by omega
        go_wp2_with (at_builtin; go_must (refine wpList_append_lies _ rfl (.tmp 23) (.tmp 29) 91 rfl w.heap.size 5 i0 (.int .u8 0) 1 1 Tryd.underlying91 hi hz0 hz1 hz2 rfl (by decide) (.slice none 0 0) 0 [] rfl (World.ownsRow_nil _ _ _ _) ⟨w.heap.size, 0, none⟩ 1 1 [.int .u8 ((mark : Int) + 55 + (K : Int))] rfl rfl (World.news_of_block (cs := #[.int .u8 ((mark : Int) + 55 + (K : Int))]) (t := 5) (fr := (0, 0)) (heap_alloc_new w _)) (by simp [Value.oneCell']) (by omega) (by unfold maxLen; omega) (by omega) (by simp) _ rfl ?_); intro g1 c1 w1 ho1 hg1 hat1 hlt1; go_must (have HO1 := hide (And.intro ho1 hg1)); clear ho1 hg1 hat1 hlt1)
        have HB1 : Hid (Below w.heap.size w w1) := (below_alloc w _).grown HO1.out.2 (by simp) (fun k e => by cases e)
        go_loopw [5, 6] (fun v bv wr => ∃ t : Nat, t ≤ K ∧ bv = .int .i64 ((256 ^ (K - t) : Nat) : Int) ∧ wr.ownsRow w.heap.size 5 1 v (t + 1) (.int .u8 ((mark : Int) + 55 + (K : Int)) :: (LS.take t).map (Value.int .u8)) ∧ Below w.heap.size w wr) (fun _ bv _ => (intOf bv).toNat)
        case atStart => exact ⟨0, Nat.zero_le _, by rw [← HX.out]; rfl, by simpa using HO1.out.1, HB1.out⟩
        case round =>
          obtain ⟨t, ht, rfl, hown, hbw⟩ := hrel
          have HOW := hide hown
          have HBW := hide hbw
          clear hown hbw
          by_cases htl : t < K
          · obtain ⟨y1, y2, y3⟩ := HP.out t htl
            have hg := HG.out t htl
            have htk := HT.out t htl
            obtain ⟨Y, hY⟩ : ∃ Y, Hid (256 ^ (K - (t + 1)) = Y) := ⟨256 ^ (K - (t + 1)), Eq.refl _⟩
            rw [hY.out] at y1 y2 y3 hg
            rw [hg] at htk
            rw [y1]
            have HTK := hide htk
            have HQl : n / Y < 72057594037927936 := Nat.lt_of_le_of_lt (Nat.div_le_self _ _) HN.out
            have f6 : (n : Int) / (Y : Int) = ((n / Y : Nat) : Int) := by omega
            have HYm : Hid (((n / Y % 256 : Nat) : Int) = ((n / Y : Nat) : Int) % 256) := by show _ = _; omega
            clear htk hg y1
            have f1 : (1 : Int) < ((256 * Y : Nat) : Int) := by omega
            have f2 : ((256 * Y : Nat) : Int) / 256 = (Y : Int) := by omega
            have f3 : (1 : Int) ≤ (Y : Int) := by omega
            have f4 : ((Y : Int) == 0) = false := by simp; omega
            have f5 : (Y : Int) ≤ 281474976710656 := by omega
            rw [HYm.out] at HTK
            clear HYm
            generalize n / Y = Qq at *
            go_wp2_with (at_builtin; go_must (refine wpList_append_lies _ rfl (.tmp 35) (.tmp 41) 91 rfl w.heap.size 5 i0 (.int .u8 0) 1 1 Tryd.underlying91 hi hz0 hz1 hz2 rfl (by decide) u5 (t + 1) _ rfl (HOW.out.alloc _) ⟨wr.heap.size, 0, none⟩ 1 1 [.int .u8 ((Qq : Int) % 256)] rfl rfl (World.news_of_block (cs := #[.int .u8 ((Qq : Int) % 256)]) (t := 5) (fr := (0, 0)) (heap_alloc_new wr _)) (by simp [Value.oneCell']) (by omega) (by unfold maxLen; omega) (by omega) (by have := HBW.out.size; simp; omega) _ rfl ?_); intro g3 c3 w3 ho3 hg3 hat3 hlt3; go_must (have HO3 := hide (And.intro ho3 hg3)); clear ho3 hg3 hat3 hlt3)
            go_roundw
            case rel => exact ⟨t + 1, by omega, by rw [hY.out], by rw [HTK.out]; exact HO3.out.1, (HBW.out.alloc HBW.out.size _).grown HO3.out.2 (by have := HBW.out.size; simp; omega) (own_ge HOW.out (Nat.le_refl _))⟩
            case measure => simp [intOf]; omega
          · obtain rfl : t = K := by omega
            have hO := HOW.out
            rw [HTL.out] at hO
            rw [show t - t = 0 from Nat.sub_self t, show ((256 ^ 0 : Nat) : Int) = 1 from rfl]
            have hcv := conv_own (bs := ((mark : Int) + 55 + (t : Int)) :: LS) (by simpa using hO)
            clear hO
            go_wp2
            go_ret
            exact ⟨by rw [HE.out]; rfl, HBW.out⟩
end Go.Proofs.YtkegignigkhleaaDoor
namespace Go.Proofs.YtkegignigkhleaaDoor
open Go.RowKit

theorem byteN_left (x y : ByteArray) (i : Nat) (h : i < x.size) : byteN (x ++ y) i = byteN x i := by
  unfold byteN
  rw [ByteArray.data_append, Array.toList_append, List.getD_eq_getElem?_getD, List.getD_eq_getElem?_getD, List.getElem?_append_left (by rw [Array.length_toList]; exact h)]
theorem byteN_right (x y : ByteArray) (i : Nat) : byteN (x ++ y) (x.size + i) = byteN y i := by
  unfold byteN
  have e : x.data.toList.length = x.size := Array.length_toList
  rw [ByteArray.data_append, Array.toList_append, List.getD_eq_getElem?_getD, List.getD_eq_getElem?_getD, List.getElem?_append_right (by rw [e]; omega), e, Nat.add_sub_cancel_left]
theorem byteN_ext {x y : ByteArray} (hs : x.size = y.size) (h : ∀ i, i < x.size → byteN x i = byteN y i) : x = y := by
  apply ByteArray.ext
  apply Array.ext hs
  intro i h1 h2
  have := h i h1
  unfold byteN at this
  rw [List.getD_eq_getElem?_getD, List.getD_eq_getElem?_getD, List.getElem?_eq_getElem (by rw [Array.length_toList]; exact h1), List.getElem?_eq_getElem (by rw [Array.length_toList]; exact h2)] at this
  exact UInt8.toNat_inj.1 (by simpa using this)
theorem byteN_nums (l : List Int) (i v : Nat) (h : l[i]? = some (v : Int)) (hv : v < 256) : byteN (strOfNums l) i = v := by
  unfold byteN
  rw [strOfNums_data, List.getD_eq_getElem?_getD, List.getElem?_map, h]
  simp
  omega
theorem byteN_extract (s : ByteArray) (a b i : Nat) (hb : b ≤ s.size) (h : a + i < b) : byteN (s.extract a b) i = byteN s (a + i) := by
  have h1 : i < (s.extract a b).size := by simp [ByteArray.size_extract]; omega
  have h2 : a + i < s.size := by omega
  rw [← byteN_eq _ _ h1, ← byteN_eq _ _ h2, ByteArray.getElem_extract]

/-- the bytes of c stand in s from a place on -/
def Stands (s c : ByteArray) (a : Nat) : Prop := a + c.size ≤ s.size ∧ ∀ i, i < c.size → byteN s (a + i) = byteN c i
theorem Stands.append {s x y : ByteArray} {a : Nat} (h : Stands s (x ++ y) a) : Stands s x a ∧ Stands s y (a + x.size) := by
  have e : (x ++ y).size = x.size + y.size := ByteArray.size_append
  refine ⟨⟨by have := h.1; omega, fun i hi => ?_⟩, ⟨by have := h.1; omega, fun i hi => ?_⟩⟩
  · rw [h.2 i (by omega), byteN_left _ _ _ hi]
  · rw [Nat.add_assoc, h.2 (x.size + i) (by omega), byteN_right]
theorem Stands.join {s x y : ByteArray} {a : Nat} (h1 : Stands s x a) (h2 : Stands s y (a + x.size)) : Stands s (x ++ y) a := by
  have e : (x ++ y).size = x.size + y.size := ByteArray.size_append
  refine ⟨by have := h2.1; omega, fun i hi => ?_⟩
  by_cases hx : i < x.size
  · rw [h1.2 i hx, byteN_left _ _ _ hx]
  · obtain ⟨j, rfl⟩ : ∃ j, i = x.size + j := ⟨i - x.size, by omega⟩
    rw [← Nat.add_assoc, h2.2 j (by omega), byteN_right]
theorem Stands.eq {s c : ByteArray} {a b : Nat} (h : Stands s c a) (hb : a + c.size = b) : s.extract a b = c := by
  have hz : (s.extract a b).size = c.size := by have := h.1; rw [ext_size s a b (by omega) (by omega)]; omega
  refine byteN_ext hz fun i hi => ?_
  rw [byteN_extract s a b i (by have := h.1; omega) (by omega), h.2 i (by omega)]
theorem Stands.self (s : ByteArray) (a b : Nat) (h : a ≤ b) (hb : b ≤ s.size) : Stands s (s.extract a b) a := by
  have hz := ext_size s a b h hb
  exact ⟨by omega, fun i hi => by rw [byteN_extract s a b i hb (by omega)]⟩
theorem Stands.whole (s : ByteArray) : Stands s s 0 := ⟨by omega, fun i _ => by rw [Nat.zero_add]⟩

theorem hdr_one (mark n : Nat) (h : n ≤ 55) : hdr mark n = [((mark + n : Nat) : Int)] := by unfold hdr; rw [if_pos h]
theorem hdr_two (mark n : Nat) (h : 55 < n) (h2 : n < 256) : hdr mark n = [((mark + 56 : Nat) : Int), (n : Int)] := by
  have hc : cntB n = 1 := by unfold cntB; rw [if_neg (by omega), if_pos h2]
  unfold hdr; rw [if_neg (by omega)]
  unfold lenS
  rw [hc]
  simp only [leN, List.reverse_cons, List.reverse_nil, List.nil_append]
  rw [Nat.mod_eq_of_lt h2]
theorem hdr_three (mark n : Nat) (h : 256 ≤ n) (h2 : n < 65536) : hdr mark n = [((mark + 57 : Nat) : Int), ((n / 256 : Nat) : Int), ((n % 256 : Nat) : Int)] := by
  have hc : cntB n = 2 := by unfold cntB; rw [if_neg (by omega), if_neg (by omega), if_pos h2]
  unfold hdr; rw [if_neg (by omega)]
  unfold lenS
  rw [hc]
  simp only [leN, List.reverse_cons, List.reverse_nil, List.nil_append, List.cons_append]
  rw [Nat.mod_eq_of_lt (show n / 256 < 256 by omega)]

/-- where a head stands it is read as one -/
theorem span_of (mark : Nat) (s t : ByteArray) (a limit : Nat) (h : Stands s (headS mark t) a) (hl : a + (headS mark t).size ≤ limit) (hs : t.size ≤ 6000) (hm : mark ≤ 192) :
    ∃ z, byteN s a = mark + z ∧ z ≤ 63 ∧ spanN s a z limit = ((a + (headS mark t).size - t.size, a + (headS mark t).size), 0) := by
  have hz : (headS mark t).size = (hdr mark t.size).length + t.size := by unfold headS; rw [ByteArray.size_append, strOfNums_size]
  have h1 : Stands s (strOfNums (hdr mark t.size)) a := h.append.1
  have hb : ∀ i v : Nat, (hdr mark t.size)[i]? = some (v : Int) → v < 256 → byteN s (a + i) = v := by
    intro i v hi hv
    have hlt : i < (strOfNums (hdr mark t.size)).size := by rw [strOfNums_size]; exact (List.getElem?_eq_some_iff.1 hi).1
    rw [h1.2 i hlt, byteN_nums _ i v hi hv]
  by_cases c1 : t.size ≤ 55
  · have hh := hdr_one mark t.size c1
    rw [hh] at hz hb
    simp only [List.length_cons, List.length_nil] at hz
    refine ⟨t.size, hb 0 _ rfl (by omega), by omega, ?_⟩
    unfold spanN
    rw [if_pos c1, if_neg (by omega)]
    have e1 : a + (headS mark t).size - t.size = a + 1 := by omega
    have e2 : a + (headS mark t).size = a + 1 + t.size := by omega
    rw [e1, e2]
  · by_cases c2 : t.size < 256
    · have hh := hdr_two mark t.size (by omega) c2
      rw [hh] at hz hb
      simp only [List.length_cons, List.length_nil] at hz
      have b1 : byteN s (a + 1) = t.size := hb 1 _ rfl c2
      have hL : lenN s (a + 1) 1 limit = ((t.size : Int), 0) := by
        unfold lenN
        have hn : numN s (a + 1) 1 = t.size := by simp [numN, b1]
        rw [if_neg (by omega), if_neg (by omega), hn, if_neg (by omega), Nat.min_eq_left (by omega)]
      refine ⟨56, hb 0 _ rfl (by omega), by omega, ?_⟩
      unfold spanN
      rw [if_neg (by omega)]
      simp only [show 56 - 55 = 1 from rfl, hL]
      rw [if_neg (by simp), if_neg (by omega)]
      have e1 : a + (headS mark t).size - t.size = a + 1 + 1 := by omega
      have e2 : a + (headS mark t).size = a + 1 + 1 + t.size := by omega
      rw [e1, e2]
      simp
    · have hh := hdr_three mark t.size (by omega) (by omega)
      rw [hh] at hz hb
      simp only [List.length_cons, List.length_nil] at hz
      have b1 : byteN s (a + 1) = t.size / 256 := hb 1 _ rfl (by omega)
      have b2 : byteN s (a + 2) = t.size % 256 := hb 2 _ rfl (by omega)
      have hL : lenN s (a + 1) 2 limit = ((t.size : Int), 0) := by
        unfold lenN
        have hn : numN s (a + 1) 2 = t.size := by
          simp only [numN, Nat.add_zero]
          rw [b1, show a + 1 + 1 = a + 2 from rfl, b2]; omega
        rw [if_neg (by omega), if_neg (by omega), hn, if_neg (by omega), Nat.min_eq_left (by omega)]
      refine ⟨57, hb 0 _ rfl (by omega), by omega, ?_⟩
      unfold spanN
      rw [if_neg (by omega)]
      simp only [show 57 - 55 = 2 from rfl, hL]
      rw [if_neg (by simp), if_neg (by omega)]
      have e1 : a + (headS mark t).size - t.size = a + 1 + 2 := by omega
      have e2 : a + (headS mark t).size = a + 1 + 2 + t.size := by omega
      rw [e1, e2]
      simp

theorem numN_ge (s : ByteArray) (a : Nat) (h : byteN s a ≠ 0) : ∀ k, 256 ^ k ≤ numN s a (k + 1)
  | 0 => by simp [numN]; omega
  | k + 1 => by
    have := numN_ge s a h k
    rw [numN, Nat.pow_succ]
    omega
/-- what is read as a head is one -/
theorem of_span (mark : Nat) (s : ByteArray) (a z limit st en : Nat) (hb : byteN s a = mark + z) (hz : z ≤ 63) (hm : mark ≤ 192) (h : spanN s a z limit = ((st, en), 0)) (hl : limit ≤ s.size) (hs : s.size ≤ 6000) :
    a < st ∧ st ≤ en ∧ en ≤ limit ∧ Stands s (headS mark (s.extract st en)) a ∧ a + (headS mark (s.extract st en)).size = en := by
  have key : ∀ k, st = a + k → st ≤ en → en ≤ limit → 0 < k → (hdr mark (en - st)).length = k → (∀ i, i < k → ∃ v : Nat, (hdr mark (en - st))[i]? = some (v : Int) ∧ v < 256 ∧ byteN s (a + i) = v) →
      a < st ∧ st ≤ en ∧ en ≤ limit ∧ Stands s (headS mark (s.extract st en)) a ∧ a + (headS mark (s.extract st en)).size = en := by
    intro k h1 h2 h3 h4 h5 h6
    have hx := ext_size s st en h2 (by omega)
    have hlen : (strOfNums (hdr mark (en - st))).size = k := by rw [strOfNums_size, h5]
    refine ⟨by omega, h2, h3, ?_, ?_⟩
    · unfold headS
      rw [hx]
      refine Stands.join ⟨by omega, fun i hi => ?_⟩ (by rw [hlen, ← h1]; exact Stands.self s st en h2 (by omega))
      obtain ⟨v, v1, v2, v3⟩ := h6 i (by omega)
      rw [v3, byteN_nums _ i v v1 v2]
    · unfold headS
      rw [ByteArray.size_append, hx, hlen]; omega
  have hbl := byteN_lt s a
  unfold spanN at h
  by_cases c1 : z ≤ 55
  · rw [if_pos c1] at h
    by_cases c2 : limit < a + 1 + z
    · rw [if_pos c2] at h; simp at h
    · rw [if_neg c2] at h
      simp only [Prod.mk.injEq, and_true] at h
      obtain ⟨rfl, rfl⟩ := h
      have e : a + 1 + z - (a + 1) = z := by omega
      refine key 1 rfl (by omega) (by omega) (by omega) (by rw [e, hdr_one mark z c1]; rfl) (fun i hi => ?_)
      obtain rfl : i = 0 := by omega
      rw [e, hdr_one mark z c1]
      exact ⟨mark + z, rfl, by omega, hb⟩
  · rw [if_neg c1] at h
    rcases lenN_cases s (a + 1) (z - 55) limit with ⟨_, h2⟩ | ⟨L, hL1, hL2, hL⟩
    · rw [if_pos (by rcases h2 with h2 | h2 <;> rw [h2] <;> decide)] at h
      have : (lenN s (a + 1) (z - 55) limit).2 = 0 := by simpa using congrArg Prod.snd h
      rcases h2 with h2 | h2 <;> rw [h2] at this <;> cases this
    · rw [hL] at h
      simp only [ne_eq, not_true_eq_false, if_false, Int.toNat_natCast] at h
      by_cases c2 : (limit : Int) < ((a + 1 + (z - 55) : Nat) : Int) + (L : Int)
      · rw [if_pos c2] at h; simp at h
      · rw [if_neg c2] at h
        simp only [Prod.mk.injEq, and_true] at h
        obtain ⟨rfl, rfl⟩ := h
        unfold lenN at hL
        by_cases d1 : limit < a + 1 + (z - 55)
        · omega
        · rw [if_neg d1] at hL
          by_cases d2 : byteN s (a + 1) = 0
          · rw [if_pos d2] at hL; simp at hL
          · rw [if_neg d2] at hL
            by_cases d3 : numN s (a + 1) (z - 55) ≤ 55
            · rw [if_pos d3] at hL; simp at hL
            · rw [if_neg d3] at hL
              simp only [Prod.mk.injEq, and_true] at hL
              have hL3 : numN s (a + 1) (z - 55) = L := by omega
              have e : a + 1 + (z - 55) + L - (a + 1 + (z - 55)) = L := by omega
              obtain ⟨k, hk⟩ : ∃ k, z - 55 = k + 1 := ⟨z - 56, by omega⟩
              have hge := numN_ge s (a + 1) d2 k
              rw [← hk, hL3] at hge
              match k, hk, hge with
              | 0, hk, _ =>
                obtain rfl : z = 56 := by omega
                have hn : byteN s (a + 1) = L := by rw [← hL3]; simp [numN]
                have hbl2 := byteN_lt s (a + 1)
                have hh := hdr_two mark L (by omega) (by omega)
                refine key 2 rfl (by omega) (by omega) (by omega) (by rw [e, hh]; rfl) (fun i hi => ?_)
                rw [e, hh]
                match i, hi with
                | 0, _ => exact ⟨mark + 56, rfl, by omega, hb⟩
                | 1, _ => exact ⟨L, rfl, by omega, hn⟩
              | 1, hk, hge =>
                obtain rfl : z = 57 := by omega
                have hn : byteN s (a + 1) * 256 + byteN s (a + 2) = L := by rw [← hL3]; simp [numN]
                have hbl2 := byteN_lt s (a + 1)
                have hbl3 := byteN_lt s (a + 2)
                have hh := hdr_three mark L (by omega) (by omega)
                refine key 3 rfl (by omega) (by omega) (by omega) (by rw [e, hh]; rfl) (fun i hi => ?_)
                rw [e, hh]
                match i, hi with
                | 0, _ => exact ⟨mark + 57, rfl, by omega, hb⟩
                | 1, _ => exact ⟨L / 256, rfl, by omega, by omega⟩
                | 2, _ => exact ⟨L % 256, rfl, by omega, by omega⟩
              | k + 2, _, hge =>
                have : 256 ^ 2 ≤ 256 ^ (k + 2) := Nat.pow_le_pow_right (by decide) (by omega)
                omega
end Go.Proofs.YtkegignigkhleaaDoor
namespace Go.Proofs.YtkegignigkhleaaDoor
open Go.RowKit

theorem ext_whole (t : ByteArray) : t.extract 0 t.size = t := by simp
theorem ext_join (s : ByteArray) (a b c : Nat) (h1 : a ≤ b) (h2 : b ≤ c) : s.extract a b ++ s.extract b c = s.extract a c := by
  apply ByteArray.ext
  rw [ByteArray.data_append, ByteArray.data_extract, ByteArray.data_extract, ByteArray.data_extract, Array.extract_append_extract, Nat.min_eq_left h1, Nat.max_eq_right h2]
theorem joinB_cons (c : ByteArray) (cs : List ByteArray) : joinB (c :: cs) = c ++ joinB cs := by
  apply ByteArray.ext
  rw [ByteArray.data_append]
  simp [joinB]
theorem txt_code {t b : ByteArray} (h : txt t = some b) (ht : t.size ≤ 6000) : t = textC b := by
  unfold txt at h
  split at h
  · rename_i x y e
    split at h
    · rename_i hy
      injection h with h
      subst hy
      unfold hdN at e
      split at e
      · cases e
      · rename_i h0
        split at e
        · rename_i h1
          simp only [Option.some.injEq, Prod.mk.injEq] at e
          obtain ⟨_, rfl, e2⟩ := e
          rw [ext_whole] at h
          subst h
          have : ownC t = true := by
            unfold ownC
            simp [h1]; omega
          rw [textC, if_pos this]
        · split at e
          · rename_i h2
            split at e
            · cases e
            · rename_i h3
              split at e
              · cases e
              · rename_i h4
                simp only [Option.some.injEq, Prod.mk.injEq] at e
                obtain ⟨_, e1, e2⟩ := e
                have h3' : (spanN t 0 (byteN t 0 - 128) t.size).2 = 0 := by simpa using h3
                have hsp := span_eq h3'
                rw [e1, e2] at hsp h4
                rw [h] at h4
                obtain ⟨k1, k2, k3, k4, k5⟩ := of_span 128 t 0 (byteN t 0 - 128) t.size x t.size (by omega) (by omega) (by omega) hsp (Nat.le_refl _) ht
                have := k4.eq k5
                rw [ext_whole, h] at this
                rw [textC, if_neg h4]
                exact this
          · split at e
            · cases e
            · simp only [Option.some.injEq, Prod.mk.injEq] at e
              exact absurd e.1 (by decide)
    · cases h
  · cases h
theorem cuts_join {s : ByteArray} {e : Nat} (he : e ≤ s.size) : ∀ (m a : Nat) (ts : List ByteArray), e - a ≤ m → a ≤ e → cutsN s e m a = some ts → joinB ts = s.extract a e
  | 0, a, ts, hm, ha, h => by
    simp [cutsN] at h
    subst h
    obtain rfl : a = e := by omega
    apply ByteArray.ext
    simp [joinB]
  | m + 1, a, ts, hm, ha, h => by
    rw [cutsN] at h
    by_cases hlt : a < e
    · rw [if_pos hlt] at h
      cases hh : hdN s a e with
      | none => rw [hh] at h; cases h
      | some p =>
        obtain ⟨l, x, y⟩ := p
        rw [hh] at h
        have hle := hdN_le hh
        cases hc : cutsN s e m y with
        | none => simp [hc] at h
        | some us =>
          simp [hc] at h
          subst h
          rw [joinB_cons, cuts_join he m y us (by omega) (by omega) hc, ext_join _ _ _ _ (by omega) (by omega)]
    · rw [if_neg hlt] at h
      injection h with h
      subst h
      obtain rfl : a = e := by omega
      apply ByteArray.ext
      simp [joinB]
theorem items_code {t : ByteArray} {ts : List ByteArray} (h : itemsOf t = some ts) (ht : t.size ≤ 6000) : t = listC ts := by
  unfold itemsOf at h
  split at h
  · rename_i x y e
    split at h
    · rename_i hy
      subst hy
      have hle := hdN_le e
      have hj := cuts_join (Nat.le_refl _) _ _ _ (Nat.le_refl _) hle.2.2.1 h
      unfold hdN at e
      split at e
      · cases e
      · split at e
        · simp only [Option.some.injEq, Prod.mk.injEq] at e
          exact absurd e.1 (by decide)
        · rename_i h1
          split at e
          · split at e
            · cases e
            · split at e
              · cases e
              · simp only [Option.some.injEq, Prod.mk.injEq] at e
                exact absurd e.1 (by decide)
          · rename_i h2
            split at e
            · cases e
            · rename_i h3
              simp only [Option.some.injEq, Prod.mk.injEq] at e
              obtain ⟨_, e1, e2⟩ := e
              have h3' : (spanN t 0 (byteN t 0 - 192) t.size).2 = 0 := by simpa using h3
              have hsp := span_eq h3'
              rw [e1, e2] at hsp
              have hlt := byteN_lt t 0
              obtain ⟨k1, k2, k3, k4, k5⟩ := of_span 192 t 0 (byteN t 0 - 192) t.size x t.size (by omega) (by omega) (by omega) hsp (Nat.le_refl _) ht
              have := k4.eq k5
              rw [ext_whole, ← hj] at this
              exact this
    · cases h
  · cases h
end Go.Proofs.YtkegignigkhleaaDoor
namespace Go.Proofs.YtkegignigkhleaaDoor
open Go.RowKit
attribute [local go_sem ↓] Go.wp_at_zero Go.wp_at_succ

/-- three cells hold the item whose code a text is -/
def ItB : Nat → World → List Value → ByteArray → Prop
  | 0, _, cs, t => ∃ b, txt t = some b ∧ cs = [.bool false, .string b, .slice none 0 0]
  | r + 1, w, cs, t => (∃ b, txt t = some b ∧ cs = [.bool false, .string b, .slice none 0 0]) ∨
    ∃ (v : Value) (css : List (List Value)) (ts : List ByteArray), itemsOf t = some ts ∧ cs = [.bool true, .string ⟨#[]⟩, v] ∧ w.ownsRow 0 75 3 v css.length css.flatten ∧ Al (ItB r w) css ts
theorem own_blk {w : World} {base e size n : Nat} {v : Value} {xs : List Value} (h : w.ownsRow base e size v n xs) {g : Nat} (hg : v.ownBlock = some g) : g < w.heap.size := by
  rcases h.2 with ⟨rfl, _⟩ | ⟨g', c, cur, rfl, _, hh, _⟩
  · cases hg
  · obtain rfl : g' = g := by simpa [Value.ownBlock] using hg
    exact (Array.getElem?_eq_some_iff.1 hh).1
theorem ItB.keep {w w' : World} (hb : Below w.heap.size w w') : ∀ {r : Nat} {cs : List Value} {t : ByteArray}, ItB r w cs t → ItB r w' cs t
  | 0, _, _, h => h
  | r + 1, cs, t, h => by
    rcases h with h | ⟨v, css, ts, h1, h2, h3, h4⟩
    · exact .inl h
    · exact .inr ⟨v, css, ts, h1, h2, own_far h3 (fun g _ hg => hb.block g hg), h4.mono (fun _ _ h => ItB.keep hb h)⟩
theorem ItIs.full {w : World} {ok : Nat → Prop} : ∀ {r : Nat} {cs : List Value} {q : List Prt}, ItIs r w ok cs q → FullP q
  | 0, _, _, ⟨b, _, e⟩ => by rw [e]; exact FullP.text b
  | r + 1, cs, q, h => by
    rcases h with ⟨b, _, e⟩ | ⟨v, css, pss, h1, h2, h3, h4, h5, h6⟩
    · rw [e]; exact FullP.text b
    · rw [h6]
      refine FullP.list (fun p hp => ?_) h4
      obtain ⟨i, hi, rfl⟩ := List.getElem_of_mem hp
      have := h5 i (by omega)
      rw [List.getD_eq_getElem?_getD (l := pss), List.getElem?_eq_getElem hi] at this
      exact ItIs.full this
/-- what the reader laid, by the text -/
theorem itB_of {w : World} {ok : Nat → Prop} : ∀ {r : Nat} {cs : List Value} {q : List Prt} {t : ByteArray}, ItIs r w ok cs q → RdB r t q → ItB r w cs t
  | 0, cs, q, t, ⟨b, h1, h2⟩, ⟨b', h3, h4⟩ => by
    rw [h2] at h4
    simp only [List.cons.injEq, Prod.mk.injEq, and_true, true_and] at h4
    subst h4
    exact ⟨b, h3, h1⟩
  | r + 1, cs, q, t, h, h' => by
    rcases h with ⟨b, h1, h2⟩ | ⟨v, css, pss, h1, h2, h3, h4, h5, h6⟩
    · rcases h' with ⟨b', h3, h4⟩ | ⟨ts, qs, _, _, h4⟩
      · rw [h2] at h4
        simp only [List.cons.injEq, Prod.mk.injEq, and_true, true_and] at h4
        subst h4
        exact .inl ⟨b, h3, h1⟩
      · rw [h2] at h4
        simp only [List.cons.injEq, Prod.mk.injEq] at h4
        exact absurd h4.1.1 (by decide)
    · rcases h' with ⟨b', _, h7⟩ | ⟨ts, qs, h7, h8, h9⟩
      · rw [h6] at h7
        simp only [List.cons.injEq, Prod.mk.injEq] at h7
        exact absurd h7.1.1 (by decide)
      · rw [h6] at h9
        simp only [List.cons.injEq, Prod.mk.injEq, true_and] at h9
        have hl := h8.len
        have hfp : ∀ p ∈ pss, FullP p := fun p hp => by
          obtain ⟨i, hi, rfl⟩ := List.getElem_of_mem hp
          have := h5 i (by omega)
          rw [List.getD_eq_getElem?_getD (l := pss), List.getElem?_eq_getElem hi] at this
          exact ItIs.full this
        have hfq : ∀ q ∈ qs, FullP q := fun q hq => by obtain ⟨t, _, ht⟩ := al_mem h8 hq; exact RdB.full ht
        have hpq : pss = qs := flat_uniq (by omega) hfp hfq h9.2
        subst hpq
        refine .inr ⟨v, css, ts, h7, h1, h2, al_of (by omega) (fun i hc ht => ?_)⟩
        have k1 := h5 i hc
        rw [List.getD_eq_getElem?_getD, List.getElem?_eq_getElem hc, List.getD_eq_getElem?_getD, List.getElem?_eq_getElem (by omega)] at k1
        exact itB_of k1 (h8.at i ht (by omega))
theorem ItB.shape {w : World} {r : Nat} {cs : List Value} {t : ByteArray} (h : ItB r w cs t) : ∃ (l : Bool) (b : ByteArray) (ao : Option Addr) (lo lc : Nat), cs = [.bool l, .string b, .slice ao lo lc] := by
  cases r with
  | zero => obtain ⟨b, _, rfl⟩ := h; exact ⟨_, _, _, _, _, rfl⟩
  | succ r =>
    rcases h with ⟨b, _, rfl⟩ | ⟨v, css, ts, _, rfl, h2, _⟩
    · exact ⟨_, _, _, _, _, rfl⟩
    · rcases h2.2 with ⟨rfl, _⟩ | ⟨g, c, cur, rfl, _⟩
      · exact ⟨_, _, _, _, _, rfl⟩
      · exact ⟨_, _, _, _, _, rfl⟩

/-- what Read answers, by the text -/
theorem readB_any (t : ByteArray) (w : World) (ht : t.size ≤ 6000) : Calls Tryd.prog 30 #[.string t] w fun e w' => ((∃ c0 c1 c2, Can 8 t ∧ e = .returned (.tuple #[.agg #[c0, c1, c2], .int .i64 0]) ∧ ItB 8 w' [c0, c1, c2] t) ∨ (¬ Can 8 t ∧ ∃ er : Int, er ≠ 0 ∧ e = .returned (.tuple #[it0, .int .i64 er]))) ∧ Below w.heap.size w w' := by
  refine (rRead_any t w ht).mono ?_
  intro e w' h
  have hno : ∀ q en, readN t 8 0 t.size = .ok (q, en) → en ≠ t.size → ¬ Can 8 t := by
    rintro q en h1 h2 ⟨q', hq⟩
    have h3 := (rd_whole t 8 q').2 hq
    rw [h1] at h3
    simp only [Except.ok.injEq, Prod.mk.injEq] at h3
    exact h2 h3.2
  cases hres : readN t 8 0 t.size with
  | error x =>
    rw [hres] at h
    obtain ⟨rfl, hb⟩ := h
    refine ⟨.inr ⟨?_, x, readN_err t 8 0 t.size x hres, rfl⟩, hb⟩
    rintro ⟨q, hq⟩
    rw [(rd_whole t 8 q).2 hq] at hres; cases hres
  | ok yy =>
    obtain ⟨q, en⟩ := yy
    rw [hres] at h
    unfold RdPost at h
    have hle := (readN_len t 8 0 t.size q en hres).2
    by_cases hlt : en < t.size
    · simp only [if_pos hlt] at h
      obtain ⟨rfl, hb⟩ := h
      exact ⟨.inr ⟨hno q en hres (by omega), 5, by decide, rfl⟩, hb⟩
    · simp only [if_neg hlt] at h
      obtain ⟨c0, c1, c2, rfl, hit, hb⟩ := h
      obtain rfl : en = t.size := by omega
      have hq := (rd_whole t 8 q).1 hres
      exact ⟨.inl ⟨c0, c1, c2, ⟨q, hq⟩, rfl, itB_of hit hq⟩, hb⟩
theorem ItB.can {w : World} : ∀ {r : Nat} {cs : List Value} {t : ByteArray}, ItB r w cs t → (txt t).isSome = true ∨ (itemsOf t).isSome = true
  | 0, _, _, ⟨b, h, _⟩ => .inl (by rw [h]; rfl)
  | _ + 1, _, _, .inl ⟨b, h, _⟩ => .inl (by rw [h]; rfl)
  | _ + 1, _, _, .inr ⟨_, _, ts, h, _⟩ => .inr (by rw [h]; rfl)
end Go.Proofs.YtkegignigkhleaaDoor
