/-
  OUR OWN: VpC VpE VpD VpDx VpD2 VpF.
-/
import Derived.Test.YtkegignigkhleaaDoorG22
import Derived.Test.YtkegignigkhleaaDoorG28
import Derived.Test.YtkegignigkhleaaDoorG25
import Derived.Deep.RegionHeld3
namespace Go.Proofs.YtkegignigkhleaaDoor
open Go.RowKit
attribute [local go_sem ↓] Go.wp_at_zero Go.wp_at_succ

theorem eB_e0 : eB = e0 := rfl
/-- a path in memory, in a block that is ok -/
structure Pth (ok : Nat → Prop) (w : World) (ao : Option Addr) (p : List Int) (cap : Nat) : Prop where
  ints : Ints w ao p
  blk : ∀ a, ao = some a → p ≠ [] → ok a.block
  cap : p.length ≤ cap
  some : ∃ g o, ao = some ⟨g, o, none⟩
theorem Pth.keepIn {ok : Nat → Prop} {w w' : World} {ao : Option Addr} {p : List Int} {cap : Nat} (h : Pth ok w ao p cap) (hk : ∀ k, ok k → k < w.heap.size → w'.heap[k]? = w.heap[k]?) : Pth ok w' ao p cap := by
  refine ⟨?_, h.blk, h.cap, h.some⟩
  by_cases h0 : 0 < p.length
  · obtain ⟨b, off, h1, hlt, h2⟩ := h.ints.row h0
    refine .inr ⟨b, off, h1, fun j hj => ?_⟩
    exact (World.cell?_of_block (w := w) (w' := w') (a := ⟨b, off + j, none⟩) (hk b (h.blk _ h1 (fun e => by rw [e] at h0; simp at h0)) hlt)).trans (h2 j hj)
  · exact .inl (List.length_eq_zero_iff.1 (by omega))
theorem Pth.mono {ok ok' : Nat → Prop} {w : World} {ao : Option Addr} {p : List Int} {cap : Nat} (h : Pth ok w ao p cap) (hk : ∀ k, ok k → ok' k) : Pth ok' w ao p cap := ⟨h.ints, fun a e hn => hk _ (h.blk a e hn), h.cap, h.some⟩
/-- a reference in memory: a node, or a hash alone -/
def NxAt (ok : Nat → Prop) (w : World) : Nx → Value → ByteArray → Prop
  | .nil => fun v h => v = .nilIface ∧ h = e0
  | .hash g => fun v h => v = .nilIface ∧ h = g
  | .leaf p x => fun v h => h = e0 ∧ ∃ b ao cap, v = .iface 133 (ptr b) ∧ ok b ∧ w.heap[b]? = some (.cells #[.slice ao p.length cap, .string x] 135 (0, 0)) ∧ Pth ok w ao p cap
  | .ext p n => fun v h => h = e0 ∧ ∃ b ao cap u g, v = .iface 110 (ptr b) ∧ ok b ∧ w.heap[b]? = some (.cells #[.slice ao p.length cap, u, .string g] 139 (0, 0)) ∧ Pth ok w ao p cap ∧ NxAt ok w n u g
  | .br c x => fun v h => h = e0 ∧ ∃ b us hs, v = .iface 112 (ptr b) ∧ ok b ∧ w.heap[b]? = some (.cells (brCells us hs x) 142 (0, 0)) ∧ ∀ i, i < 16 → NxAt ok w (c i) (us i) (hs i)
theorem NxAt.keepIn {ok : Nat → Prop} {w w' : World} (hk : ∀ b, ok b → b < w.heap.size → w'.heap[b]? = w.heap[b]?) : ∀ (n : Nx) (v : Value) (h : ByteArray), NxAt ok w n v h → NxAt ok w' n v h
  | .nil, _, _, h => h
  | .hash _, _, _, h => h
  | .leaf _ _, _, _, ⟨e, b, ao, cap, h1, h2, h3, h4⟩ => ⟨e, b, ao, cap, h1, h2, by rw [hk b h2 (Array.getElem?_eq_some_iff.1 h3).1]; exact h3, h4.keepIn hk⟩
  | .ext _ n, _, _, ⟨e, b, ao, cap, u, g, h1, h2, h3, h4, h5⟩ => ⟨e, b, ao, cap, u, g, h1, h2, by rw [hk b h2 (Array.getElem?_eq_some_iff.1 h3).1]; exact h3, h4.keepIn hk, NxAt.keepIn hk n u g h5⟩
  | .br c _, _, _, ⟨e, b, us, hs, h1, h2, h3, h4⟩ => ⟨e, b, us, hs, h1, h2, by rw [hk b h2 (Array.getElem?_eq_some_iff.1 h3).1]; exact h3, fun i hi => NxAt.keepIn hk (c i) (us i) (hs i) (h4 i hi)⟩
theorem NxAt.mono {ok ok' : Nat → Prop} {w : World} (hk : ∀ b, ok b → ok' b) : ∀ (n : Nx) (v : Value) (h : ByteArray), NxAt ok w n v h → NxAt ok' w n v h
  | .nil, _, _, h => h
  | .hash _, _, _, h => h
  | .leaf _ _, _, _, ⟨e, b, ao, cap, h1, h2, h3, h4⟩ => ⟨e, b, ao, cap, h1, hk b h2, h3, h4.mono hk⟩
  | .ext _ n, _, _, ⟨e, b, ao, cap, u, g, h1, h2, h3, h4, h5⟩ => ⟨e, b, ao, cap, u, g, h1, hk b h2, h3, h4.mono hk, NxAt.mono hk n u g h5⟩
  | .br c _, _, _, ⟨e, b, us, hs, h1, h2, h3, h4⟩ => ⟨e, b, us, hs, h1, hk b h2, h3, fun i hi => NxAt.mono hk (c i) (us i) (hs i) (h4 i hi)⟩
theorem NxAt.keep {ok : Nat → Prop} {w w' : World} {n : Nx} {v : Value} {h : ByteArray} (hn : NxAt ok w n v h) (hb : Below w.heap.size w w') : NxAt ok w' n v h := NxAt.keepIn (fun b _ hl => hb.block b hl) n v h hn
theorem NxAt.isNd {ok : Nat → Prop} {w : World} {n : Nx} {v : Value} {h : ByteArray} (hn : NxAt ok w n v h) : isNd v := by
  cases n with
  | nil => exact .inl hn.1
  | hash g => exact .inl hn.1
  | leaf p x => obtain ⟨_, b, _, _, h1, _⟩ := hn; exact .inr ⟨_, b, h1⟩
  | ext p m => obtain ⟨_, b, _, _, _, _, h1, _⟩ := hn; exact .inr ⟨_, b, h1⟩
  | br c x => obtain ⟨_, b, _, _, h1, _⟩ := hn; exact .inr ⟨_, b, h1⟩
/-- a node that is there -/
theorem NxAt.some {ok : Nat → Prop} {w : World} {n : Nx} {v : Value} {h : ByteArray} (hn : NxAt ok w n v h) (h1 : n.isNil = false) (h2 : n.isHash = false) : h = e0 ∧ ∃ t b, v = .iface t (ptr b) := by
  cases n with
  | nil => cases h1
  | hash g => cases h2
  | leaf p x => obtain ⟨e, b, _, _, h1, _⟩ := hn; exact ⟨e, _, b, h1⟩
  | ext p m => obtain ⟨e, b, _, _, _, _, h1, _⟩ := hn; exact ⟨e, _, b, h1⟩
  | br c x => obtain ⟨e, b, _, _, h1, _⟩ := hn; exact ⟨e, _, b, h1⟩
theorem NxAt.live {ok : Nat → Prop} {w : World} {n : Nx} {us : Nat → Value} {hs : Nat → ByteArray} {i : Nat} (hn : NxAt ok w n (us i) (hs i)) (hw : n.WF) : ((n.isNil = true ∧ us i = .nilIface ∧ hs i = e0) ∨ (n.isNil = false ∧ Live us hs i)) := by
  cases n with
  | nil => exact .inl ⟨rfl, hn⟩
  | hash g => exact .inr ⟨rfl, .inr ⟨hn.1, fun e => by have h1 := hn.2; rw [e] at h1; have h2 : g.size = 32 := hw; rw [← h1] at h2; cases h2⟩⟩
  | leaf p x => obtain ⟨_, b, _, _, h1, _⟩ := hn; exact .inr ⟨rfl, .inl ⟨_, b, h1⟩⟩
  | ext p m => obtain ⟨_, b, _, _, _, _, h1, _⟩ := hn; exact .inr ⟨rfl, .inl ⟨_, b, h1⟩⟩
  | br c x => obtain ⟨_, b, _, _, h1, _⟩ := hn; exact .inr ⟨rfl, .inl ⟨_, b, h1⟩⟩

def sharedZ : List Int → List Int → Nat
  | a :: q, b :: p => if a = b then sharedZ q p + 1 else 0
  | _, _ => 0
theorem sharedZ_left : ∀ q p : List Int, sharedZ q p ≤ q.length
  | [], _ => by simp [sharedZ]
  | _ :: _, [] => by simp [sharedZ]
  | a :: q, b :: p => by
    have := sharedZ_left q p
    simp only [sharedZ, List.length_cons]
    split <;> omega
theorem sharedZ_right : ∀ q p : List Int, sharedZ q p ≤ p.length
  | [], _ => by simp [sharedZ]
  | _ :: _, [] => by simp [sharedZ]
  | a :: q, b :: p => by
    have := sharedZ_right q p
    simp only [sharedZ, List.length_cons]
    split <;> omega
theorem sharedZ_step : ∀ (q p : List Int) (n : Nat), n < sharedZ q p → q.getD n 0 = p.getD n 0
  | [], _, _, h => by simp [sharedZ] at h
  | _ :: _, [], _, h => by simp [sharedZ] at h
  | a :: q, b :: p, n, h => by
    simp only [sharedZ] at h
    split at h
    · rename_i e
      cases n with
      | zero => simp [e]
      | succ n => simpa using sharedZ_step q p n (by omega)
    · omega
theorem sharedZ_stop : ∀ (q p : List Int), sharedZ q p < q.length → sharedZ q p < p.length → q.getD (sharedZ q p) 0 ≠ p.getD (sharedZ q p) 0
  | [], _, h, _ => by simp [sharedZ] at h
  | _ :: _, [], _, h => by simp [sharedZ] at h
  | a :: q, b :: p, h1, h2 => by
    simp only [sharedZ] at h1 h2 ⊢
    split
    · rename_i e
      rw [if_pos e] at h1 h2
      simp only [List.length_cons] at h1 h2
      simpa using sharedZ_stop q p (by omega) (by omega)
    · rename_i e
      simpa using e
theorem sharedZ_iff : ∀ (q p : List Int), sharedZ q p = q.length ↔ q.isPrefixOf p = true
  | [], p => by simp [sharedZ, List.isPrefixOf]
  | a :: q, [] => by simp [sharedZ, List.isPrefixOf]
  | a :: q, b :: p => by
    have ih := sharedZ_iff q p
    simp only [sharedZ, List.isPrefixOf, List.length_cons, Bool.and_eq_true, beq_iff_eq]
    by_cases e : a = b
    · rw [if_pos e, ← ih]
      constructor
      · intro h; exact ⟨e, by omega⟩
      · intro h; rw [h.2]
    · rw [if_neg e]
      constructor
      · intro h; omega
      · intro h; exact absurd h.1 e
theorem sharedZ_all (q p : List Int) : decide (sharedZ q p = q.length) = q.isPrefixOf p := by
  rw [Bool.eq_iff_iff, decide_eq_true_eq]; exact sharedZ_iff q p
theorem takeZ_step {p q : List Int} {k : Nat} (h : p.take k = q.take k) (hp : k < p.length) (hq : k < q.length) (he : p.getD k 0 = q.getD k 0) : p.take (k + 1) = q.take (k + 1) := by
  rw [List.take_succ_eq_append_getElem hp, List.take_succ_eq_append_getElem hq, h]
  have e1 : p.getD k 0 = p[k] := by simp [List.getD_eq_getElem?_getD, hp]
  have e2 : q.getD k 0 = q[k] := by simp [List.getD_eq_getElem?_getD, hq]
  rw [← e1, ← e2, he]
theorem drewZ (w : World) (n : Nat) : Below w.heap.size w (w.drewN n) := below_drewN (Below.refl _ _) n

set_option maxHeartbeats 1000000 in
set_option maxRecDepth 20000 in
theorem equalZ_any (ao bo : Option Addr) (ca cb : Nat) (p q : List Int) (w : World) (ha : Ints w ao p) (hb : Ints w bo q) (hp : p.length ≤ 1000) :
    Calls Tryd.prog 106 #[.slice ao p.length ca, .slice bo q.length cb] w fun e w' => e = .returned (.bool (decide (p = q))) ∧ Below w.heap.size w w' := by
  by_cases hl : p.length = q.length
  · have hl1 : ((p.length : Int) != (q.length : Int)) = false := by simp; omega
    have HA := hide ha
    have HB := hide hb
    have HL := hide hl
    have hpI : (p.length : Int) ≤ 1000 := by omega
    clear ha hb
    go_enter Tryd.func106, Tryd.ntmps106
    go_wp2_with fail
    clear hl hl1
    go_loopw [13] (fun i wr => ∃ k : Nat, k ≤ p.length ∧ i = .int .i64 (k : Int) ∧ p.take k = q.take k ∧ ∃ n, wr = w.drewN n) (fun i _ => p.length - (intOf i).toNat)
    case atStart => exact ⟨0, Nat.zero_le _, rfl, by simp, 0, rfl⟩
    case round =>
      obtain ⟨k, hk, rfl, ht, n, rfl⟩ := hrel
      by_cases hlt : k < p.length
      · have hlq : k < q.length := by have := HL.out; omega
        obtain ⟨b1, o1, rfl, c1⟩ := HA.out.get k hlt
        obtain ⟨b2, o2, rfl, c2⟩ := HB.out.get k hlq
        have HT := hide ht
        have hkI : (k : Int) < (p.length : Int) := by omega
        have hkq : (k : Int) < (q.length : Int) := by omega
        have hk0 : (0 : Int) ≤ (k : Int) := by omega
        by_cases he : p.getD k 0 = q.getD k 0
        · have HS := hide (takeZ_step ht hlt hlq he)
          rw [← he] at c2
          clear ht he hlq
          generalize p.getD k 0 = z at *
          go_wp2
          go_quiet (fail)
          go_wp2
          go_roundw
          case rel => exact ⟨k + 1, by omega, by go_num, HS.out, n + nq, rfl⟩
          case measure => simp [intOf]; omega
        · have HN : Hid (p ≠ q) := fun e => he (by rw [e])
          have hne : p.getD k 0 ≠ q.getD k 0 := he
          clear ht he hlq
          generalize p.getD k 0 = z1 at *
          generalize q.getD k 0 = z2 at *
          go_wp2
          go_quiet (fail)
          go_wp2
          go_ret
          exact ⟨by rw [decide_eq_false HN.out]; rfl, by first | exact below_drewN (drewZ _ _) _ | exact drewZ _ _⟩
      · obtain rfl : k = p.length := by omega
        have HE : Hid (p = q) := by
          show p = q
          have h1 := HL.out
          rw [List.take_length, h1, List.take_length] at ht
          exact ht
        have hql : (q.length : Int) ≤ (p.length : Int) := by have := HL.out; omega
        clear ht
        go_wp2
        go_ret
        exact ⟨by rw [decide_eq_true HE.out]; rfl, drewZ _ _⟩
  · have hl1 : ((p.length : Int) != (q.length : Int)) = true := by simp; omega
    have HN : Hid (p ≠ q) := fun e => hl (by rw [e])
    clear ha hb hl
    go_enter Tryd.func106, Tryd.ntmps106
    go_wp2
    go_ret
    exact ⟨by rw [decide_eq_false HN.out]; rfl, Below.refl _ _⟩

set_option maxHeartbeats 2000000 in
set_option maxRecDepth 20000 in
theorem sharedZ_any (ao bo : Option Addr) (ca cb : Nat) (p q : List Int) (w : World) (ha : Ints w ao p) (hb : Ints w bo q) (hp : p.length ≤ 1000) :
    Calls Tryd.prog 96 #[.slice ao p.length ca, .slice bo q.length cb] w fun e w' => e = .returned (.int .i64 (sharedZ p q : Int)) ∧ Below w.heap.size w w' := by
  have HA := hide ha
  have HB := hide hb
  have hpI : (p.length : Int) ≤ 1000 := by omega
  clear ha hb
  go_enter Tryd.func96, Tryd.ntmps96
  go_wp2_with fail
  go_loopw [5] (fun i wr => ∃ k : Nat, k ≤ sharedZ p q ∧ i = .int .i64 (k : Int) ∧ ∃ n, wr = w.drewN n) (fun i _ => sharedZ p q - (intOf i).toNat)
  case atStart => exact ⟨0, Nat.zero_le _, rfl, 0, rfl⟩
  case round =>
    obtain ⟨k, hk, rfl, n, rfl⟩ := hrel
    have hk0 : (0 : Int) ≤ (k : Int) := by omega
    have h1 := sharedZ_left p q
    have h2 := sharedZ_right p q
    by_cases hlt : k < sharedZ p q
    · have he := sharedZ_step p q k hlt
      obtain ⟨b1, o1, rfl, c1⟩ := HA.out.get k (by omega)
      obtain ⟨b2, o2, rfl, c2⟩ := HB.out.get k (by omega)
      rw [← he] at c2
      have d1 : (k : Int) < (p.length : Int) := by omega
      have d2 : (k : Int) < (q.length : Int) := by omega
      clear he h1 h2
      generalize p.getD k 0 = z at *
      go_wp2
      go_quiet (fail)
      go_wp2
      go_roundw
      case rel => exact ⟨k + 1, by omega, by go_num, n + nq, rfl⟩
      case measure => simp [intOf]; omega
    · have hke : k = sharedZ p q := by omega
      by_cases l1 : k < p.length
      · have d1 : (k : Int) < (p.length : Int) := by omega
        by_cases l2 : k < q.length
        · have d2 : (k : Int) < (q.length : Int) := by omega
          obtain ⟨b1, o1, rfl, c1⟩ := HA.out.get k l1
          obtain ⟨b2, o2, rfl, c2⟩ := HB.out.get k l2
          have hne : p.getD k 0 ≠ q.getD k 0 := by rw [hke]; exact sharedZ_stop p q (by omega) (by omega)
          have HK := hide hke
          generalize p.getD k 0 = z1 at *
          generalize q.getD k 0 = z2 at *
          clear hke hlt hk h1 h2
          go_wp2
          go_quiet (fail)
          go_wp2
          go_ret
          exact ⟨by rw [← HK.out]; rfl, by first | exact below_drewN (drewZ _ _) _ | exact drewZ _ _⟩
        · have d2 : (q.length : Int) ≤ (k : Int) := by omega
          have HK := hide hke
          clear hke hlt hk h1 h2
          go_wp2
          go_quiet (fail)
          go_wp2
          go_ret
          exact ⟨by rw [← HK.out]; rfl, by first | exact below_drewN (drewZ _ _) _ | exact drewZ _ _⟩
      · have d1 : (p.length : Int) ≤ (k : Int) := by omega
        have HK := hide hke
        clear hke hlt hk h1 h2
        go_wp2
        go_quiet (fail)
        go_wp2
        go_ret
        exact ⟨by rw [← HK.out]; rfl, by first | exact below_drewN (drewZ _ _) _ | exact drewZ _ _⟩
end Go.Proofs.YtkegignigkhleaaDoor
namespace Go.Proofs.YtkegignigkhleaaDoor
open Go.RowKit
attribute [local go_sem ↓] Go.wp_at_zero Go.wp_at_succ

theorem isEmptyV {s : ByteArray} (h : ¬ s.size = 0) : s.toList.isEmpty = false := empty_of_ne (fun e => h (by rw [e]; rfl))
set_option maxHeartbeats 1000000 in
set_option maxRecDepth 20000 in
theorem parseValue_any (t : ByteArray) (d : Nat) (w : World) (ht : t.size ≤ 6000) (hd : d ≤ 1000) :
    Calls Tryd.prog 65 #[.string t, .int .i64 (d : Int)] w fun e w' => e = .returned (.tuple #[.string ((txt t).getD ⟨#[]⟩), .bool (pval t d).isSome]) ∧ Below w.heap.size w w' := by
  have HT := hide (text_any t · ht)
  cases hx : txt t with
  | none =>
    have HP : Hid (pval t d = none) := by show _ = _; unfold pval; rw [hx]
    have HX := hide hx
    clear hx
    go_enter Tryd.func65, Tryd.ntmps65
    go_wp2_with fail
    refine (HT.out _).mono ?_
    rintro e w1 ⟨rfl, hb⟩
    rw [HX.out]
    simp only [Option.getD_none, Option.isSome_none]
    go_wp2
    go_ret2
    exact ⟨by rw [HP.out]; rfl, hb⟩
  | some v =>
    have hv := txt_size hx
    have HX := hide hx
    by_cases h1 : v.size ≤ 400
    · have i1 : (v.size : Int) ≤ 400 := by omega
      by_cases h2 : v.size = 0
      · obtain rfl : v = ⟨#[]⟩ := empty_of_size h2
        have HP : Hid ((pval t d).isSome = true) := by show _ = _; unfold pval; rw [hx]; simp only; rw [if_pos ⟨h1, .inl h2⟩]; rfl
        clear hx h1 h2 hv i1
        go_enter Tryd.func65, Tryd.ntmps65
        go_wp2_with fail
        refine (HT.out _).mono ?_
        rintro e w1 ⟨rfl, hb⟩
        rw [HX.out]
        simp only [Option.getD_some, Option.isSome_some]
        go_wp2
        go_ret2
        exact ⟨by rw [HP.out]; rfl, hb⟩
      · have hne := isEmptyV h2
        by_cases h3 : d % 2 = 0
        · have HP : Hid ((pval t d).isSome = true) := by show _ = _; unfold pval; rw [hx]; simp only; rw [if_pos ⟨h1, .inr h3⟩]; rfl
          have i3 : (d : Int) % 2 = 0 := by omega
          have i4 : (0 : Int) ≤ (d : Int) := by omega
          clear hx h1 h2 hv h3
          go_enter Tryd.func65, Tryd.ntmps65
          go_wp2_with fail
          refine (HT.out _).mono ?_
          rintro e w1 ⟨rfl, hb⟩
          rw [HX.out]
          simp only [Option.getD_some, Option.isSome_some]
          go_wp2
          go_ret2
          exact ⟨by rw [HP.out]; rfl, hb⟩
        · have HP : Hid ((pval t d).isSome = false) := by show _ = _; unfold pval; rw [hx]; simp only; rw [if_neg (fun h => by rcases h.2 with h | h; { exact h2 h }; { exact h3 h })]; rfl
          have i3 : (d : Int) % 2 = 1 := by omega
          have i4 : (0 : Int) ≤ (d : Int) := by omega
          clear hx h1 h2 hv h3
          go_enter Tryd.func65, Tryd.ntmps65
          go_wp2_with fail
          refine (HT.out _).mono ?_
          rintro e w1 ⟨rfl, hb⟩
          rw [HX.out]
          simp only [Option.getD_some, Option.isSome_some]
          go_wp2
          go_ret2
          exact ⟨by rw [HP.out]; rfl, hb⟩
    · have HP : Hid ((pval t d).isSome = false) := by show _ = _; unfold pval; rw [hx]; simp only; rw [if_neg (fun h => h1 h.1)]; rfl
      have i1 : 400 < (v.size : Int) := by omega
      clear hx h1
      go_enter Tryd.func65, Tryd.ntmps65
      go_wp2_with fail
      refine (HT.out _).mono ?_
      rintro e w1 ⟨rfl, hb⟩
      rw [HX.out]
      simp only [Option.getD_some, Option.isSome_some]
      go_wp2
      go_ret2
      exact ⟨by rw [HP.out]; rfl, hb⟩

theorem as_ext_nil (w : World) : (Instr.typeAssert .nilIface 47 110 true).run Tryd.prog w = .ok (.tuple #[.pointer none, .bool false]) w := by kernel_rfl
theorem as_ext_leaf (b : Nat) (w : World) : (Instr.typeAssert (.iface 133 (ptr b)) 47 110 true).run Tryd.prog w = .ok (.tuple #[.pointer none, .bool false]) w := by kernel_rfl
theorem as_ext_br (b : Nat) (w : World) : (Instr.typeAssert (.iface 112 (ptr b)) 47 110 true).run Tryd.prog w = .ok (.tuple #[.pointer none, .bool false]) w := by kernel_rfl
theorem as_ext_ext (b : Nat) (w : World) : (Instr.typeAssert (.iface 110 (ptr b)) 47 110 true).run Tryd.prog w = .ok (.tuple #[ptr b, .bool true]) w := by kernel_rfl
theorem as_br_leaf (b : Nat) (w : World) : (Instr.typeAssert (.iface 133 (ptr b)) 47 112 true).run Tryd.prog w = .ok (.tuple #[.pointer none, .bool false]) w := by kernel_rfl
theorem as_br_ext (b : Nat) (w : World) : (Instr.typeAssert (.iface 110 (ptr b)) 47 112 true).run Tryd.prog w = .ok (.tuple #[.pointer none, .bool false]) w := by kernel_rfl
theorem as_br_br (b : Nat) (w : World) : (Instr.typeAssert (.iface 112 (ptr b)) 47 112 true).run Tryd.prog w = .ok (.tuple #[ptr b, .bool true]) w := by kernel_rfl
/-- what stands above: nothing, or a node -/
inductive Abv : Bool → Value → Prop
  | none : Abv false .nilIface
  | leaf (b : Nat) : Abv false (.iface 133 (ptr b))
  | br (b : Nat) : Abv false (.iface 112 (ptr b))
  | ext (b : Nat) : Abv true (.iface 110 (ptr b))
theorem fits_free {v : Value} (h : Abv false v) (u : Value) (w : World) : Calls Tryd.prog 39 #[v, u] w fun e w' => e = .returned (.bool true) ∧ w' = w := by
  have a1 := as_ext_nil
  have a2 := as_ext_leaf
  have a3 := as_ext_br
  unfold ptr at *
  cases h with
  | none =>
    go_enter Tryd.func39, Tryd.ntmps39
    go_wp2
    go_ret
    exact ⟨rfl, rfl⟩
  | leaf b =>
    unfold ptr
    go_enter Tryd.func39, Tryd.ntmps39
    go_wp2
    go_ret
    exact ⟨rfl, rfl⟩
  | br b =>
    unfold ptr
    go_enter Tryd.func39, Tryd.ntmps39
    go_wp2
    go_ret
    exact ⟨rfl, rfl⟩
theorem fits_ext {ok : Nat → Prop} {n : Nx} {u : Value} {h : ByteArray} (b : Nat) (w W : World) (hn : NxAt ok W n u h) (h1 : n.isNil = false) (h2 : n.isHash = false) : Calls Tryd.prog 39 #[.iface 110 (ptr b), u] w fun e w' => e = .returned (.bool n.isBr) ∧ w' = w := by
  have a1 := as_ext_ext
  have a2 := as_br_leaf
  have a3 := as_br_ext
  have a4 := as_br_br
  unfold ptr at *
  cases n with
  | nil => cases h1
  | hash g => cases h2
  | leaf p x =>
    obtain ⟨_, b, _, _, rfl, _⟩ := hn
    unfold ptr
    go_enter Tryd.func39, Tryd.ntmps39
    go_wp2
    go_ret
    exact ⟨rfl, rfl⟩
  | ext p m =>
    obtain ⟨_, b, _, _, _, _, rfl, _⟩ := hn
    unfold ptr
    go_enter Tryd.func39, Tryd.ntmps39
    go_wp2
    go_ret
    exact ⟨rfl, rfl⟩
  | br c x =>
    obtain ⟨_, b, _, _, rfl, _⟩ := hn
    unfold ptr
    go_enter Tryd.func39, Tryd.ntmps39
    go_wp2
    go_ret
    exact ⟨rfl, rfl⟩
end Go.Proofs.YtkegignigkhleaaDoor
namespace Go.Proofs.YtkegignigkhleaaDoor
open Go.RowKit
attribute [local go_sem ↓] Go.wp_at_zero Go.wp_at_succ

theorem setFour {w : World} {R : Nat} {T : TypeId} {a b c d : Value} (h : w.heap[R]? = some (.cells #[a, b, c, d] T (0, 0))) (x y z u : Value) : ((((w.setCell ⟨R, 0, none⟩ x).setCell ⟨R, 1, none⟩ y).setCell ⟨R, 2, none⟩ z).setCell ⟨R, 3, none⟩ u).heap[R]? = some (.cells #[x, y, z, u] T (0, 0)) := by
  have h1 := heap_setCell_same w R 0 _ T x h
  have h2 := heap_setCell_same _ R 1 _ T y h1
  have h3 := heap_setCell_same _ R 2 _ T z h2
  have h4 := heap_setCell_same _ R 3 _ T u h3
  exact h4
theorem belowFour {B : Nat} {a w : World} (h : Below B a w) {R : Nat} (hR : B ≤ R) (x y z u : Value) : Below B a ((((w.setCell ⟨R, 0, none⟩ x).setCell ⟨R, 1, none⟩ y).setCell ⟨R, 2, none⟩ z).setCell ⟨R, 3, none⟩ u) := (((h.setCell (p := ⟨R, 0, none⟩) hR x).setCell (p := ⟨R, 1, none⟩) hR y).setCell (p := ⟨R, 2, none⟩) hR z).setCell (p := ⟨R, 3, none⟩) hR u
/-- the box that a part comes out in -/
def PBox (w W : World) : Prop := Below w.heap.size w W ∧ W.heap[w.heap.size]? = some (.cells #[.slice none 0 0, .string ⟨#[]⟩, .nilIface, .string ⟨#[]⟩] 65 (0, 0))
theorem PBox.start (w : World) : PBox w (w.alloc (.cells #[.slice none 0 0, .string ⟨#[]⟩, .nilIface, .string ⟨#[]⟩] 65)) := ⟨below_alloc _ _, heap_alloc_new w _⟩
theorem PBox.keep {w W W' : World} (h : PBox w W) (hb : Below W.heap.size W W') : PBox w W' := ⟨h.1.trans (hb.mono h.1.size), (hb.block _ (Array.getElem?_eq_some_iff.1 h.2).1).trans h.2⟩
theorem PBox.drew {w W : World} (h : PBox w W) : PBox w W.drew := h.keep (Below.refl _ _).drew
theorem PBox.cells {w W : World} (h : PBox w W) : W.cell? ⟨w.heap.size, 0, none⟩ = some (.slice none 0 0) ∧ W.cell? ⟨w.heap.size, 1, none⟩ = some (.string ⟨#[]⟩) ∧ W.cell? ⟨w.heap.size, 2, none⟩ = some .nilIface ∧ W.cell? ⟨w.heap.size, 3, none⟩ = some (.string ⟨#[]⟩) ∧ W.frozen? ⟨w.heap.size, 0, none⟩ = false ∧ W.frozen? ⟨w.heap.size, 1, none⟩ = false ∧ W.frozen? ⟨w.heap.size, 2, none⟩ = false ∧ W.frozen? ⟨w.heap.size, 3, none⟩ = false :=
  ⟨cell_of_row _ _ 0 _ _ (0, 0) h.2, cell_of_row _ _ 1 _ _ (0, 0) h.2, cell_of_row _ _ 2 _ _ (0, 0) h.2, cell_of_row _ _ 3 _ _ (0, 0) h.2, frozen_of_row _ _ 0 _ _ h.2, frozen_of_row _ _ 1 _ _ h.2, frozen_of_row _ _ 2 _ _ h.2, frozen_of_row _ _ 3 _ _ h.2⟩

set_option maxHeartbeats 4000000 in
set_option maxRecDepth 20000 in
theorem leafToward_any (b : Nat) (ao bo : Option Addr) (ca cb : Nat) (p q : List Int) (x : ByteArray) (w : World) (hb : w.heap[b]? = some (.cells #[.slice ao p.length ca, .string x] 135 (0, 0))) (ha : Ints w ao p) (hq : Ints w bo q) (hp : p.length ≤ 1000) :
    Calls Tryd.prog 105 #[ptr b, .slice bo q.length cb] w fun e w' => e = .returned (.tuple #[.agg #[.slice ao p.length ca, .string x, .nilIface, .string e0], .bool (decide (p = q))]) ∧ Below w.heap.size w w' := by
  have hbl := (Array.getElem?_eq_some_iff.1 hb).1
  have hcell : ∀ W, Below w.heap.size w W → W.cell? ⟨b, 0, none⟩ = some (.slice ao p.length ca) ∧ W.cell? ⟨b, 1, none⟩ = some (.string x) := fun W hW =>
    ⟨(hW.cell (p := ⟨b, 0, none⟩) hbl).trans (cell_of_row w b 0 _ _ (0, 0) hb), (hW.cell (p := ⟨b, 1, none⟩) hbl).trans (cell_of_row w b 1 _ _ (0, 0) hb)⟩
  have HC := hide hcell
  have HE : Hid (∀ W, Below w.heap.size w W → Calls Tryd.prog 106 #[.slice ao p.length ca, .slice bo q.length cb] W fun e w' => e = .returned (.bool (decide (p = q))) ∧ Below W.heap.size W w') :=
    fun W hW => equalZ_any ao bo ca cb p q W (ha.keep hW) (hq.keep hW) hp
  have HB0 := hide (PBox.start w)
  obtain ⟨c0, c1⟩ := hcell _ (PBox.start w).1
  clear hcell hb ha hq
  unfold ptr
  go_enter Tryd.func105, Tryd.ntmps105
  go_wp2_with fail
  go_region_with ((go_at_call 106; refine (HE.out _ HB0.out.drew.1).mono ?_; rintro e w1 ⟨rfl, hb1⟩; have HB1 := hide (HB0.out.drew.keep hb1); obtain ⟨d0, d1⟩ := HC.out w1 HB1.out.1; obtain ⟨z0, z1, z2, z3, f0, f1, f2, f3⟩ := HB1.out.cells; clear hb1))
  all_goals go_wp2
  all_goals
    have hfin := setFour HB1.out.2 (.slice ao p.length ca) (.string x) .nilIface (.string ⟨#[]⟩)
    have r0 := cell_of_row _ _ 0 _ _ (0, 0) hfin
    have r1 := cell_of_row _ _ 1 _ _ (0, 0) hfin
    have r2 := cell_of_row _ _ 2 _ _ (0, 0) hfin
    have r3 := cell_of_row _ _ 3 _ _ (0, 0) hfin
    refine bodyPost_ret (v := .tuple #[.agg #[.slice ao p.length ca, .string x, .nilIface, .string e0], .bool (decide (p = q))]) (by simp [results, Tryd.results105, go_sem, r0, r1, r2, r3, e0]) rfl ⟨rfl, ?_⟩
    exact belowFour HB1.out.1 (Nat.le_refl _) _ _ _ _
end Go.Proofs.YtkegignigkhleaaDoor
namespace Go.Proofs.YtkegignigkhleaaDoor
open Go.RowKit
attribute [local go_sem ↓] Go.wp_at_zero Go.wp_at_succ

set_option maxHeartbeats 4000000 in
set_option maxRecDepth 20000 in
theorem extToward_any (b : Nat) (ao bo : Option Addr) (ca cb : Nat) (p q : List Int) (u : Value) (g : ByteArray) (w : World) (hu : isNd u) (hb : w.heap[b]? = some (.cells #[.slice ao p.length ca, u, .string g] 139 (0, 0))) (ha : Ints w ao p) (hq : Ints w bo q) (hp : p.length ≤ 1000) :
    Calls Tryd.prog 95 #[ptr b, .slice bo q.length cb] w fun e w' => e = .returned (.tuple #[.agg #[.slice ao p.length ca, .string e0, u, .string g], .bool (p.isPrefixOf q)]) ∧ Below w.heap.size w w' := by
  have hbl := (Array.getElem?_eq_some_iff.1 hb).1
  have hcell : ∀ W, Below w.heap.size w W → W.cell? ⟨b, 0, none⟩ = some (.slice ao p.length ca) ∧ W.cell? ⟨b, 1, none⟩ = some u ∧ W.cell? ⟨b, 2, none⟩ = some (.string g) := fun W hW =>
    ⟨(hW.cell (p := ⟨b, 0, none⟩) hbl).trans (cell_of_row w b 0 _ _ (0, 0) hb), (hW.cell (p := ⟨b, 1, none⟩) hbl).trans (cell_of_row w b 1 _ _ (0, 0) hb), (hW.cell (p := ⟨b, 2, none⟩) hbl).trans (cell_of_row w b 2 _ _ (0, 0) hb)⟩
  have HC := hide hcell
  have hne1 : ¬ b = w.heap.size := by omega
  have hne2 : ¬ w.heap.size = b := by omega
  have HE : Hid (∀ W, Below w.heap.size w W → Calls Tryd.prog 96 #[.slice ao p.length ca, .slice bo q.length cb] W fun e w' => e = .returned (.int .i64 (sharedZ p q : Int)) ∧ Below W.heap.size W w') :=
    fun W hW => sharedZ_any ao bo ca cb p q W (ha.keep hW) (hq.keep hW) hp
  have HS : Hid (((sharedZ p q : Int) == (p.length : Int)) = p.isPrefixOf q) := by
    show _ = _
    rw [← sharedZ_all, Bool.eq_iff_iff, beq_iff_eq, decide_eq_true_eq]
    omega
  have HB0 := hide (PBox.start w)
  obtain ⟨c0, c1, c2⟩ := hcell _ (PBox.start w).1
  clear hcell hb ha hq
  rcases hu with rfl | ⟨t, ub, rfl⟩
  · unfold ptr
    go_enter Tryd.func95, Tryd.ntmps95
    go_wp2_with fail
    go_region_held3 (fun W => W.cell? ⟨b, 0, none⟩ = some (.slice ao p.length ca) ∧ W.cell? ⟨b, 1, none⟩ = some .nilIface ∧ W.cell? ⟨b, 2, none⟩ = some (.string g)) (first | go_keep | (simp [*])) ((go_at_call 96; refine (HE.out _ HB0.out.drew.1).mono ?_; rintro e w1 ⟨rfl, hb1⟩; have HB1 := hide (HB0.out.drew.keep hb1); obtain ⟨d0, d1, d2⟩ := HC.out w1 HB1.out.1; obtain ⟨z0, z1, z2, z3, f0, f1, f2, f3⟩ := HB1.out.cells; clear hb1))
    all_goals go_wp2
    all_goals
      have hfin := setFour HB1.out.2 (.slice ao p.length ca) (.string ⟨#[]⟩) .nilIface (.string g)
      have r0 := cell_of_row _ _ 0 _ _ (0, 0) hfin
      have r1 := cell_of_row _ _ 1 _ _ (0, 0) hfin
      have r2 := cell_of_row _ _ 2 _ _ (0, 0) hfin
      have r3 := cell_of_row _ _ 3 _ _ (0, 0) hfin
      refine bodyPost_ret (v := .tuple #[.agg #[.slice ao p.length ca, .string e0, .nilIface, .string g], .bool ((sharedZ p q : Int) == (p.length : Int))]) (by simp [results, Tryd.results95, go_sem, r0, r1, r2, r3, e0]) rfl ⟨by rw [HS.out], ?_⟩
      exact belowFour HB1.out.1 (Nat.le_refl _) _ _ _ _
  · unfold ptr at *
    go_enter Tryd.func95, Tryd.ntmps95
    go_wp2_with fail
    go_region_held3 (fun W => W.cell? ⟨b, 0, none⟩ = some (.slice ao p.length ca) ∧ W.cell? ⟨b, 1, none⟩ = some (.iface t (.pointer (some ⟨ub, 0, none⟩))) ∧ W.cell? ⟨b, 2, none⟩ = some (.string g)) (first | go_keep | (simp [*])) ((go_at_call 96; refine (HE.out _ HB0.out.drew.1).mono ?_; rintro e w1 ⟨rfl, hb1⟩; have HB1 := hide (HB0.out.drew.keep hb1); obtain ⟨d0, d1, d2⟩ := HC.out w1 HB1.out.1; obtain ⟨z0, z1, z2, z3, f0, f1, f2, f3⟩ := HB1.out.cells; clear hb1))
    all_goals go_wp2
    all_goals
      have hfin := setFour HB1.out.2 (.slice ao p.length ca) (.string ⟨#[]⟩) (.iface t (.pointer (some ⟨ub, 0, none⟩))) (.string g)
      have r0 := cell_of_row _ _ 0 _ _ (0, 0) hfin
      have r1 := cell_of_row _ _ 1 _ _ (0, 0) hfin
      have r2 := cell_of_row _ _ 2 _ _ (0, 0) hfin
      have r3 := cell_of_row _ _ 3 _ _ (0, 0) hfin
      refine bodyPost_ret (v := .tuple #[.agg #[.slice ao p.length ca, .string e0, .iface t (.pointer (some ⟨ub, 0, none⟩)), .string g], .bool ((sharedZ p q : Int) == (p.length : Int))]) (by simp [results, Tryd.results95, go_sem, r0, r1, r2, r3, e0]) rfl ⟨by rw [HS.out], ?_⟩
      exact belowFour HB1.out.1 (Nat.le_refl _) _ _ _ _
end Go.Proofs.YtkegignigkhleaaDoor
namespace Go.Proofs.YtkegignigkhleaaDoor
open Go.RowKit
attribute [local go_sem ↓] Go.wp_at_zero Go.wp_at_succ

/-- nothing stands there -/
def emptyB (u : Value) (h : ByteArray) : Bool := match u with
  | .nilIface => decide (h.size = 0)
  | _ => false
theorem isEmptyX_any (b off : Nat) (u : Value) (h : ByteArray) (w : World) (hu : isNd u) (h0 : w.cell? ⟨b, off, none⟩ = some u) (h1 : w.cell? ⟨b, off + 1, none⟩ = some (.string h)) :
    Calls Tryd.prog 25 #[.pointer (some ⟨b, off, none⟩)] w fun e w' => e = .returned (.bool (emptyB u h)) ∧ w' = w := by
  rcases hu with rfl | ⟨t, ub, rfl⟩
  · by_cases hh : h.size = 0
    · have e := e0_iff.1 hh
      subst e
      refine (isEmpty_yes b off w h0 h1).mono ?_
      rintro e w' ⟨rfl, rfl⟩
      exact ⟨rfl, rfl⟩
    · have hn := empty_of_ne (s := h) (fun e => hh (by rw [e]; rfl))
      have HE : Hid (emptyB .nilIface h = false) := by show _ = _; simp [emptyB, hh]
      go_enter Tryd.func25, Tryd.ntmps25
      go_wp2
      go_ret
      exact ⟨by rw [HE.out]; rfl, rfl⟩
  · exact isEmpty_no b off t ub w h0
set_option maxHeartbeats 2000000 in
set_option maxRecDepth 20000 in
theorem brToward_nil (b : Nat) (bo : Option Addr) (cb : Nat) (us : Nat → Value) (hs : Nat → ByteArray) (x : ByteArray) (w : World) (hb : w.heap[b]? = some (.cells (brCells us hs x) 142 (0, 0))) :
    Calls Tryd.prog 100 #[ptr b, .slice bo 0 cb] w fun e w' => e = .returned (.tuple #[.agg #[.slice none 0 0, .string x, .nilIface, .string e0], .bool (decide (x.size ≠ 0))]) ∧ Below w.heap.size w w' := by
  have hbl := (Array.getElem?_eq_some_iff.1 hb).1
  have c0 := fun o => ((below_alloc w o).cell (p := ⟨b, 32, none⟩) hbl).trans (br_val hb)
  have HE : Hid ((!x.toList.isEmpty) = decide (x.size ≠ 0)) := by
    show _ = _
    by_cases h : x.size = 0
    · obtain rfl := empty_of_size h
      simp [ByteArray.toList_eq, ByteArray.size]
    · rw [empty_of_ne (fun e => h (by rw [e]; rfl))]; simp [h]
  have hne1 : ¬ b = w.heap.size := by omega
  have hne2 : ¬ w.heap.size = b := by omega
  have HB0 := hide (PBox.start w)
  obtain ⟨z0, z1, z2, z3, f0, f1, f2, f3⟩ := HB0.out.cells
  clear hb
  unfold ptr
  go_enter Tryd.func100, Tryd.ntmps100
  go_wp2
  go_region_held3 (fun W => W.cell? ⟨b, 32, none⟩ = some (.string x)) (first | go_keep | (simp [*])) ((fail))
  all_goals go_wp2
  all_goals
    refine bodyPost_ret (v := .tuple #[.agg #[.slice none 0 0, .string x, .nilIface, .string e0], .bool (!x.toList.isEmpty)]) (by simp [results, Tryd.results100, go_sem, e0]) rfl ⟨by rw [HE.out], ?_⟩
    first | exact (below_alloc _ _).drew | exact below_alloc _ _
set_option maxHeartbeats 4000000 in
set_option maxRecDepth 20000 in
theorem brToward_cons (b i : Nat) (gp op cb n : Nat) (us : Nat → Value) (hs : Nat → ByteArray) (x : ByteArray) (w : World) (hi : i < 16) (hu : isNd (us i)) (hb : w.heap[b]? = some (.cells (brCells us hs x) 142 (0, 0))) (hp : w.cell? ⟨gp, op, none⟩ = some (.int .i64 (i : Int))) (hc : n + 1 ≤ cb) :
    Calls Tryd.prog 100 #[ptr b, .slice (some ⟨gp, op, none⟩) (n + 1) cb] w fun e w' => e = .returned (.tuple #[.agg #[.slice (some ⟨gp, op, none⟩) 1 cb, .string e0, us i, .string (hs i)], .bool (!emptyB (us i) (hs i))]) ∧ Below w.heap.size w w' := by
  have hbl := (Array.getElem?_eq_some_iff.1 hb).1
  have hpl : gp < w.heap.size := World.block_lt_of_cell? w _ hp
  have hr := br_ref hb i hi
  generalize us i = u at *
  generalize hs i = h at *
  have HB0 := hide (PBox.start w)
  have c0 := fun o => ((below_alloc w o).cell (p := ⟨b, i * 2, none⟩) hbl).trans hr.1
  have c1 := fun o => ((below_alloc w o).cell (p := ⟨b, i * 2 + 1, none⟩) hbl).trans hr.2
  have c2 := fun o => ((below_alloc w o).cell (p := ⟨gp, op, none⟩) hpl).trans hp
  have i0 : (0 : Int) ≤ (i : Int) := by omega
  have i1 : (i : Int) < 16 := by omega
  have p1 : (n : Int) + 1 ≤ (cb : Int) := by omega
  have p2 : (((n : Int) + 1) == 0) = false := by simp; omega
  have p3 : (1 : Int) ≤ (n : Int) + 1 := by omega
  have p4 : (0 : Int) < (n : Int) + 1 := by omega
  have p5 : (1 : Int) ≤ (cb : Int) := by omega
  have q1 : ¬ b = w.heap.size + 1 := by omega
  have q2 : ¬ gp = w.heap.size + 1 := by omega
  have q3 : ¬ b = w.heap.size := by omega
  have q4 : ¬ gp = w.heap.size := by omega
  clear hb hp hr
  unfold ptr at *
  have HU := hide hu
  rcases hu with rfl | ⟨t, ub, rfl⟩
  · go_enter Tryd.func100, Tryd.ntmps100
    go_wp2
    go_region_held3 (fun W => W.cell? ⟨b, i * 2, none⟩ = some .nilIface ∧ W.cell? ⟨b, i * 2 + 1, none⟩ = some (.string h) ∧ W.cell? ⟨gp, op, none⟩ = some (.int .i64 (i : Int))) (first | go_keep | (simp [*])) ((fail))
    all_goals
      have hB1 : PBox w (((w.alloc (.cells #[.slice none 0 0, .string ⟨#[]⟩, .nilIface, .string ⟨#[]⟩] 65)).alloc (.cells #[.nilIface, .string h] 49)).drew) := (HB0.out.keep (below_alloc _ _)).drew
      have hT : (((w.alloc (.cells #[.slice none 0 0, .string ⟨#[]⟩, .nilIface, .string ⟨#[]⟩] 65)).alloc (.cells #[.nilIface, .string h] 49)).drew).heap[w.heap.size + 1]? = some (.cells #[.nilIface, .string h] 49 (0, 0)) := by
        have h2 := heap_alloc_new (w.alloc (.cells #[.slice none 0 0, .string ⟨#[]⟩, .nilIface, .string ⟨#[]⟩] 65)) (.cells #[.nilIface, .string h] 49)
        rw [World.size_alloc] at h2
        exact h2
      generalize World.drew _ = W1 at *
      have t0 : W1.cell? ⟨w.heap.size + 1, 0, none⟩ = some .nilIface := cell_of_row _ _ 0 _ _ (0, 0) hT
      have t1 : W1.cell? ⟨w.heap.size + 1, 1, none⟩ = some (.string h) := cell_of_row _ _ 1 _ _ (0, 0) hT
      obtain ⟨z0, z1, z2, z3, f0, f1, f2, f3⟩ := hB1.cells
      have HX := hide (And.intro hB1 hT)
      have HEm : Hid (∀ W, W.cell? ⟨w.heap.size + 1, 0, none⟩ = some .nilIface → W.cell? ⟨w.heap.size + 1, 1, none⟩ = some (.string h) → Calls Tryd.prog 25 #[.pointer (some ⟨w.heap.size + 1, 0, none⟩)] W fun e w' => e = .returned (.bool (emptyB .nilIface h)) ∧ w' = W) := fun W k0 k1 => isEmptyX_any (w.heap.size + 1) 0 _ h W HU.out k0 k1
      clear hB1 hT HB0 c0 c1 c2
      obtain ⟨eb, heb⟩ : ∃ eb, Hid (emptyB .nilIface h = eb) := ⟨_, Eq.refl _⟩
      rw [heb.out] at HEm
      go_wp2
    all_goals go_region_held3 (fun W => W.cell? ⟨w.heap.size + 1, 0, none⟩ = some .nilIface ∧ W.cell? ⟨w.heap.size + 1, 1, none⟩ = some (.string h)) (first | go_keep | (simp [*])) ((go_at_call 25; refine (HEm.out _ (by first | assumption | exact t0) (by first | assumption | exact t1)).mono ?_; rintro e w5 ⟨rfl, rfl⟩))
    all_goals go_wp2
    all_goals
      have hfin := setFour HX.out.1.2 (.slice (some ⟨gp, op, none⟩) 1 cb) (.string ⟨#[]⟩) .nilIface (.string h)
      have r0 := cell_of_row _ _ 0 _ _ (0, 0) hfin
      have r1 := cell_of_row _ _ 1 _ _ (0, 0) hfin
      have r2 := cell_of_row _ _ 2 _ _ (0, 0) hfin
      have r3 := cell_of_row _ _ 3 _ _ (0, 0) hfin
      refine bodyPost_ret (v := .tuple #[.agg #[.slice (some ⟨gp, op, none⟩) 1 cb, .string e0, .nilIface, .string h], .bool (!eb)]) (by simp [results, Tryd.results100, go_sem, r0, r1, r2, r3, e0]) rfl ⟨by rw [heb.out], ?_⟩
      first | exact (belowFour HX.out.1.1 (Nat.le_refl _) _ _ _ _).drew | exact belowFour HX.out.1.1 (Nat.le_refl _) _ _ _ _
  · unfold ptr at *
    go_enter Tryd.func100, Tryd.ntmps100
    go_wp2
    go_region_held3 (fun W => W.cell? ⟨b, i * 2, none⟩ = some (.iface t (.pointer (some ⟨ub, 0, none⟩))) ∧ W.cell? ⟨b, i * 2 + 1, none⟩ = some (.string h) ∧ W.cell? ⟨gp, op, none⟩ = some (.int .i64 (i : Int))) (first | go_keep | (simp [*])) ((fail))
    all_goals
      have hB1 : PBox w (((w.alloc (.cells #[.slice none 0 0, .string ⟨#[]⟩, .nilIface, .string ⟨#[]⟩] 65)).alloc (.cells #[.iface t (.pointer (some ⟨ub, 0, none⟩)), .string h] 49)).drew) := (HB0.out.keep (below_alloc _ _)).drew
      have hT : (((w.alloc (.cells #[.slice none 0 0, .string ⟨#[]⟩, .nilIface, .string ⟨#[]⟩] 65)).alloc (.cells #[.iface t (.pointer (some ⟨ub, 0, none⟩)), .string h] 49)).drew).heap[w.heap.size + 1]? = some (.cells #[.iface t (.pointer (some ⟨ub, 0, none⟩)), .string h] 49 (0, 0)) := by
        have h2 := heap_alloc_new (w.alloc (.cells #[.slice none 0 0, .string ⟨#[]⟩, .nilIface, .string ⟨#[]⟩] 65)) (.cells #[.iface t (.pointer (some ⟨ub, 0, none⟩)), .string h] 49)
        rw [World.size_alloc] at h2
        exact h2
      generalize World.drew _ = W1 at *
      have t0 : W1.cell? ⟨w.heap.size + 1, 0, none⟩ = some (.iface t (.pointer (some ⟨ub, 0, none⟩))) := cell_of_row _ _ 0 _ _ (0, 0) hT
      have t1 : W1.cell? ⟨w.heap.size + 1, 1, none⟩ = some (.string h) := cell_of_row _ _ 1 _ _ (0, 0) hT
      obtain ⟨z0, z1, z2, z3, f0, f1, f2, f3⟩ := hB1.cells
      have HX := hide (And.intro hB1 hT)
      have HEm : Hid (∀ W, W.cell? ⟨w.heap.size + 1, 0, none⟩ = some (.iface t (.pointer (some ⟨ub, 0, none⟩))) → W.cell? ⟨w.heap.size + 1, 1, none⟩ = some (.string h) → Calls Tryd.prog 25 #[.pointer (some ⟨w.heap.size + 1, 0, none⟩)] W fun e w' => e = .returned (.bool (emptyB (.iface t (.pointer (some ⟨ub, 0, none⟩))) h)) ∧ w' = W) := fun W k0 k1 => isEmptyX_any (w.heap.size + 1) 0 _ h W HU.out k0 k1
      clear hB1 hT HB0 c0 c1 c2
      obtain ⟨eb, heb⟩ : ∃ eb, Hid (emptyB (.iface t (.pointer (some ⟨ub, 0, none⟩))) h = eb) := ⟨_, Eq.refl _⟩
      rw [heb.out] at HEm
      go_wp2
    all_goals go_region_held3 (fun W => W.cell? ⟨w.heap.size + 1, 0, none⟩ = some (.iface t (.pointer (some ⟨ub, 0, none⟩))) ∧ W.cell? ⟨w.heap.size + 1, 1, none⟩ = some (.string h)) (first | go_keep | (simp [*])) ((go_at_call 25; refine (HEm.out _ (by first | assumption | exact t0) (by first | assumption | exact t1)).mono ?_; rintro e w5 ⟨rfl, rfl⟩))
    all_goals go_wp2
    all_goals
      have hfin := setFour HX.out.1.2 (.slice (some ⟨gp, op, none⟩) 1 cb) (.string ⟨#[]⟩) (.iface t (.pointer (some ⟨ub, 0, none⟩))) (.string h)
      have r0 := cell_of_row _ _ 0 _ _ (0, 0) hfin
      have r1 := cell_of_row _ _ 1 _ _ (0, 0) hfin
      have r2 := cell_of_row _ _ 2 _ _ (0, 0) hfin
      have r3 := cell_of_row _ _ 3 _ _ (0, 0) hfin
      refine bodyPost_ret (v := .tuple #[.agg #[.slice (some ⟨gp, op, none⟩) 1 cb, .string e0, .iface t (.pointer (some ⟨ub, 0, none⟩)), .string h], .bool (!eb)]) (by simp [results, Tryd.results100, go_sem, r0, r1, r2, r3, e0]) rfl ⟨by rw [heb.out], ?_⟩
      first | exact (belowFour HX.out.1.1 (Nat.le_refl _) _ _ _ _).drew | exact belowFour HX.out.1.1 (Nat.le_refl _) _ _ _ _
end Go.Proofs.YtkegignigkhleaaDoor
namespace Go.Proofs.YtkegignigkhleaaDoor
open Go.RowKit
attribute [local go_sem ↓] Go.wp_at_zero Go.wp_at_succ

/-- what parse answers -/
def ParsePost (o : Option Nx) (w : World) (e : Ending) (w' : World) : Prop := match o with
  | some n => ∃ v, e = .returned (.tuple #[v, .bool true]) ∧ NxAt (fun k => w.heap.size ≤ k) w' n v e0 ∧ Below w.heap.size w w'
  | none => ∃ v, isNd v ∧ e = .returned (.tuple #[v, .bool false]) ∧ Below w.heap.size w w'
/-- what parseRef answers -/
def RefPostX (o : Option Nx) (w : World) (e : Ending) (w' : World) : Prop := match o with
  | some n => ∃ v h, isNd v ∧ e = .returned (.tuple #[.agg #[v, .string h], .bool true]) ∧ NxAt (fun k => w.heap.size ≤ k) w' n v h ∧ Below w.heap.size w w'
  | none => ∃ v h, isNd v ∧ e = .returned (.tuple #[.agg #[v, .string h], .bool false]) ∧ Below w.heap.size w w'
def ParseOk (f : Nat) : Prop := ∀ (t : ByteArray) (d : Nat) (w : World), t.size < f → t.size < 32 → d ≤ 300 → Calls Tryd.prog 38 #[.string t, .int .i64 (d : Int)] w fun e w' => ParsePost (parseF f t d) w e w'
theorem ParsePost.form {o : Option Nx} {w w' : World} {e : Ending} (h : ParsePost o w e w') : ∃ v, isNd v ∧ e = .returned (.tuple #[v, .bool o.isSome]) ∧ (∀ n, o = some n → NxAt (fun k => w.heap.size ≤ k) w' n v e0) ∧ Below w.heap.size w w' := by
  cases o with
  | none => obtain ⟨v, h1, h2, h3⟩ := h; exact ⟨v, h1, h2, (fun n e => by cases e), h3⟩
  | some n => obtain ⟨v, h1, h2, h3⟩ := h; exact ⟨v, h2.isNd, h1, (fun m e => by injection e with e; subst e; exact h2), h3⟩
theorem RefPostX.form {o : Option Nx} {w w' : World} {e : Ending} (h : RefPostX o w e w') : ∃ v g, isNd v ∧ e = .returned (.tuple #[.agg #[v, .string g], .bool o.isSome]) ∧ (∀ n, o = some n → NxAt (fun k => w.heap.size ≤ k) w' n v g) ∧ Below w.heap.size w w' := by
  cases o with
  | none => obtain ⟨v, g, h1, h2, h3⟩ := h; exact ⟨v, g, h1, h2, (fun n e => by cases e), h3⟩
  | some n => obtain ⟨v, g, h1, h2, h3, h4⟩ := h; exact ⟨v, g, h1, h2, (fun m e => by injection e with e; subst e; exact h3), h4⟩
theorem RefPostX.of {o : Option Nx} {w w' : World} {e : Ending} (v : Value) (g : ByteArray) (h1 : isNd v) (h2 : e = .returned (.tuple #[.agg #[v, .string g], .bool o.isSome])) (h3 : ∀ n, o = some n → NxAt (fun k => w.heap.size ≤ k) w' n v g) (h4 : Below w.heap.size w w') : RefPostX o w e w' := by
  cases o with
  | none => exact ⟨v, g, h1, h2, h4⟩
  | some n => exact ⟨v, g, h1, h2, h3 n rfl, h4⟩
theorem ParsePost.of {o : Option Nx} {w w' : World} {e : Ending} (v : Value) (h1 : isNd v) (h2 : e = .returned (.tuple #[v, .bool o.isSome])) (h3 : ∀ n, o = some n → NxAt (fun k => w.heap.size ≤ k) w' n v e0) (h4 : Below w.heap.size w w') : ParsePost o w e w' := by
  cases o with
  | none => exact ⟨v, h1, h2, h4⟩
  | some n => exact ⟨v, h2, h3 n rfl, h4⟩

/-- the box that a reference comes out in -/
def RBox (w W : World) : Prop := Below w.heap.size w W ∧ W.heap[w.heap.size]? = some (.cells #[.nilIface, .string ⟨#[]⟩] 49 (0, 0))
theorem RBox.start (w : World) : RBox w (w.alloc (.cells #[.nilIface, .string ⟨#[]⟩] 49)) := ⟨below_alloc _ _, heap_alloc_new w _⟩
theorem RBox.keep {w W W' : World} (h : RBox w W) (hb : Below W.heap.size W W') : RBox w W' := ⟨h.1.trans (hb.mono h.1.size), (hb.block _ (Array.getElem?_eq_some_iff.1 h.2).1).trans h.2⟩
theorem RBox.drew {w W : World} (h : RBox w W) : RBox w W.drew := h.keep (Below.refl _ _).drew
theorem RBox.cells {w W : World} (h : RBox w W) : W.cell? ⟨w.heap.size, 0, none⟩ = some .nilIface ∧ W.cell? ⟨w.heap.size, 1, none⟩ = some (.string ⟨#[]⟩) ∧ W.frozen? ⟨w.heap.size, 0, none⟩ = false ∧ W.frozen? ⟨w.heap.size, 1, none⟩ = false :=
  ⟨cell_of_row _ _ 0 _ _ (0, 0) h.2, cell_of_row _ _ 1 _ _ (0, 0) h.2, frozen_of_row _ _ 0 _ _ h.2, frozen_of_row _ _ 1 _ _ h.2⟩
theorem setTwo {w : World} {R : Nat} {T : TypeId} {a b : Value} (h : w.heap[R]? = some (.cells #[a, b] T (0, 0))) (x y : Value) : ((w.setCell ⟨R, 0, none⟩ x).setCell ⟨R, 1, none⟩ y).heap[R]? = some (.cells #[x, y] T (0, 0)) := by
  have h1 := heap_setCell_same w R 0 _ T x h
  have h2 := heap_setCell_same _ R 1 _ T y h1
  exact h2
theorem belowTwo {B : Nat} {a w : World} (h : Below B a w) {R : Nat} (hR : B ≤ R) (x y : Value) : Below B a ((w.setCell ⟨R, 0, none⟩ x).setCell ⟨R, 1, none⟩ y) := (h.setCell (p := ⟨R, 0, none⟩) hR x).setCell (p := ⟨R, 1, none⟩) hR y
theorem other_two {w : World} {R k : Nat} (h : k ≠ R) (x y : Value) : ((w.setCell ⟨R, 0, none⟩ x).setCell ⟨R, 1, none⟩ y).heap[k]? = w.heap[k]? := by
  rw [Below.heap_setCell _ _ _ _ (fun e => h (by simpa using e)), Below.heap_setCell _ _ _ _ (fun e => h (by simpa using e))]

set_option maxHeartbeats 2000000 in
set_option maxRecDepth 20000 in
/-- where bytes stand -/
theorem parseRef_text (P : ByteArray → Nat → Option Nx) (t b : ByteArray) (d : Nat) (w : World) (ht : t.size ≤ 6000) (hb : txt t = some b) :
    Calls Tryd.prog 66 #[.string t, .int .i64 (d : Int)] w fun e w' => RefPostX (refF P t d) w e w' := by
  have HT := hide (text_any t · ht)
  have HX := hide hb
  have HB0 := hide (RBox.start w)
  have HP : Hid ((refF P t d).isSome = (b.toList.isEmpty || ((b.size : Int) == 32))) := by
    show _ = _
    unfold refF
    rw [hb]
    simp only
    by_cases h0 : b.size = 0
    · obtain rfl := empty_of_size h0
      simp [ByteArray.toList_eq, ByteArray.size]
    · rw [if_neg h0, isEmptyV h0]
      by_cases h1 : b.size = 32
      · rw [if_pos h1, h1]; rfl
      · rw [if_neg h1]
        have : ((b.size : Int) == 32) = false := beq_false_of_ne (by omega)
        rw [this]; rfl
  have HN : Hid (∀ n, refF P t d = some n → ∀ W, NxAt (fun k => w.heap.size ≤ k) W n .nilIface b) := by
    intro n hn W
    rcases refF_cases hn with ⟨b', h1, h2⟩ | ⟨h1, _⟩
    · rw [hb] at h1
      obtain rfl : b = b' := by injection h1
      rcases h2 with ⟨h2, rfl⟩ | ⟨_, rfl⟩
      · exact ⟨rfl, e0_iff.1 h2⟩
      · exact ⟨rfl, rfl⟩
    · rw [hb] at h1; cases h1
  clear hb
  cases hz : b.toList.isEmpty with
  | true =>
    rw [hz, Bool.true_or] at HP
    go_enter Tryd.func66, Tryd.ntmps66
    go_wp2_with fail
    refine (HT.out _).mono ?_
    rintro e w1 ⟨rfl, hb1⟩
    rw [HX.out]
    simp only [Option.getD_some, Option.isSome_some]
    have HB1 := hide (HB0.out.keep hb1)
    obtain ⟨z0, z1, f0, f1⟩ := HB1.out.cells
    clear hb1
    go_wp2
    have hfin := setTwo HB1.out.2 .nilIface (.string b)
    have r0 := cell_of_row _ _ 0 _ _ (0, 0) hfin
    have r1 := cell_of_row _ _ 1 _ _ (0, 0) hfin
    refine bodyPost_ret (v := .tuple #[.agg #[.nilIface, .string b], .bool true]) (by simp [results, Tryd.results66, go_sem, r0, r1]) rfl ?_
    exact RefPostX.of .nilIface b (.inl rfl) (by rw [HP.out]) (fun n hn => HN.out n hn _) (belowTwo HB1.out.1 (Nat.le_refl _) _ _)
  | false =>
    rw [hz, Bool.false_or] at HP
    go_enter Tryd.func66, Tryd.ntmps66
    go_wp2_with fail
    refine (HT.out _).mono ?_
    rintro e w1 ⟨rfl, hb1⟩
    rw [HX.out]
    simp only [Option.getD_some, Option.isSome_some]
    have HB1 := hide (HB0.out.keep hb1)
    obtain ⟨z0, z1, f0, f1⟩ := HB1.out.cells
    clear hb1
    go_wp2
    have hfin := setTwo HB1.out.2 .nilIface (.string b)
    have r0 := cell_of_row _ _ 0 _ _ (0, 0) hfin
    have r1 := cell_of_row _ _ 1 _ _ (0, 0) hfin
    refine bodyPost_ret (v := .tuple #[.agg #[.nilIface, .string b], .bool ((b.size : Int) == 32)]) (by simp [results, Tryd.results66, go_sem, r0, r1]) rfl ?_
    exact RefPostX.of .nilIface b (.inl rfl) (by rw [HP.out]) (fun n hn => HN.out n hn _) (belowTwo HB1.out.1 (Nat.le_refl _) _ _)

set_option maxHeartbeats 2000000 in
set_option maxRecDepth 20000 in
/-- where a list stands that is too long -/
theorem parseRef_long (P : ByteArray → Nat → Option Nx) (t : ByteArray) (d : Nat) (w : World) (ht : t.size ≤ 6000) (hb : txt t = none) (hl : 32 ≤ t.size) :
    Calls Tryd.prog 66 #[.string t, .int .i64 (d : Int)] w fun e w' => RefPostX (refF P t d) w e w' := by
  have HT := hide (text_any t · ht)
  have HX := hide hb
  have HB0 := hide (RBox.start w)
  have HP : Hid (refF P t d = none) := by show _ = _; unfold refF; rw [hb]; simp only; rw [if_pos hl]
  have i1 : (32 : Int) ≤ (t.size : Int) := by omega
  clear hb hl
  go_enter Tryd.func66, Tryd.ntmps66
  go_wp2_with fail
  refine (HT.out _).mono ?_
  rintro e w1 ⟨rfl, hb1⟩
  rw [HX.out]
  simp only [Option.getD_none, Option.isSome_none]
  have HB1 := hide (HB0.out.keep hb1)
  obtain ⟨z0, z1, f0, f1⟩ := HB1.out.cells
  clear hb1
  go_wp2
  have hfin := setTwo HB1.out.2 .nilIface (.string ⟨#[]⟩)
  have r0 := cell_of_row _ _ 0 _ _ (0, 0) hfin
  have r1 := cell_of_row _ _ 1 _ _ (0, 0) hfin
  refine bodyPost_ret (v := .tuple #[.agg #[.nilIface, .string ⟨#[]⟩], .bool false]) (by simp [results, Tryd.results66, go_sem, r0, r1]) rfl ?_
  exact RefPostX.of .nilIface ⟨#[]⟩ (.inl rfl) (by rw [HP.out]; rfl) (fun n hn => by rw [HP.out] at hn; cases hn) (belowTwo HB1.out.1 (Nat.le_refl _) _ _)
set_option maxHeartbeats 2000000 in
set_option maxRecDepth 20000 in
/-- where a node stands -/
theorem parseRef_node (f : Nat) (ih : ParseOk f) (t : ByteArray) (d : Nat) (w : World) (hb : txt t = none) (hl : t.size < 32) (hf : t.size < f) (hd : d ≤ 300) :
    Calls Tryd.prog 66 #[.string t, .int .i64 (d : Int)] w fun e w' => RefPostX (refF (parseF f) t d) w e w' := by
  have HT := hide (text_any t · (show t.size ≤ 6000 by omega))
  have HX := hide hb
  have HB0 := hide (RBox.start w)
  have HP : Hid (refF (parseF f) t d = parseF f t d) := by show _ = _; unfold refF; rw [hb]; simp only; rw [if_neg (by omega)]
  have i1 : (t.size : Int) < 32 := by omega
  have HI := hide (fun W => ih t d W hf hl hd)
  clear hb hl hf ih
  go_enter Tryd.func66, Tryd.ntmps66
  go_wp2_with fail
  refine (HT.out _).mono ?_
  rintro e w1 ⟨rfl, hb1⟩
  rw [HX.out]
  simp only [Option.getD_none, Option.isSome_none]
  have HB1 := hide (HB0.out.keep hb1)
  clear hb1
  go_wp2_with fail
  refine (HI.out _).mono ?_
  intro e w2 hpp
  obtain ⟨v, hv, rfl, hnx, hb2⟩ := hpp.form
  have HB2 := hide (HB1.out.keep hb2)
  have HN2 : Hid (∀ n, parseF f t d = some n → NxAt (fun k => w1.heap.size ≤ k) w2 n v e0) := hnx
  have HLt : Hid (w.heap.size < w1.heap.size) := (Array.getElem?_eq_some_iff.1 HB1.out.2).1
  obtain ⟨z0, z1, f0, f1⟩ := HB2.out.cells
  have HV := hide hv
  clear hpp hb2 hnx
  rcases hv with rfl | ⟨tt, ub, rfl⟩
  · go_wp2
    have hfin := setTwo HB2.out.2 .nilIface (.string ⟨#[]⟩)
    have r0 := cell_of_row _ _ 0 _ _ (0, 0) hfin
    have r1 := cell_of_row _ _ 1 _ _ (0, 0) hfin
    refine bodyPost_ret (v := .tuple #[.agg #[.nilIface, .string ⟨#[]⟩], .bool (parseF f t d).isSome]) (by simp [results, Tryd.results66, go_sem, r0, r1]) rfl ?_
    refine RefPostX.of .nilIface ⟨#[]⟩ (.inl rfl) (by rw [HP.out]) (fun n hn => ?_) (belowTwo HB2.out.1 (Nat.le_refl _) _ _)
    rw [HP.out] at hn
    exact NxAt.mono (fun k hk => Nat.le_trans (Nat.le_of_lt HLt.out) hk) _ _ _ (NxAt.keepIn (fun k hk _ => other_two (by have := HLt.out; omega) _ _) _ _ _ (HN2.out n hn))
  · unfold ptr at *
    go_wp2
    have hfin := setTwo HB2.out.2 (.iface tt (.pointer (some ⟨ub, 0, none⟩))) (.string ⟨#[]⟩)
    have r0 := cell_of_row _ _ 0 _ _ (0, 0) hfin
    have r1 := cell_of_row _ _ 1 _ _ (0, 0) hfin
    refine bodyPost_ret (v := .tuple #[.agg #[.iface tt (.pointer (some ⟨ub, 0, none⟩)), .string ⟨#[]⟩], .bool (parseF f t d).isSome]) (by simp [results, Tryd.results66, go_sem, r0, r1]) rfl ?_
    refine RefPostX.of (.iface tt (.pointer (some ⟨ub, 0, none⟩))) ⟨#[]⟩ (.inr ⟨tt, ub, rfl⟩) (by rw [HP.out]) (fun n hn => ?_) (belowTwo HB2.out.1 (Nat.le_refl _) _ _)
    rw [HP.out] at hn
    exact NxAt.mono (fun k hk => Nat.le_trans (Nat.le_of_lt HLt.out) hk) _ _ _ (NxAt.keepIn (fun k hk _ => other_two (by have := HLt.out; omega) _ _) _ _ _ (HN2.out n hn))
theorem parseRef_any (f : Nat) (ih : ParseOk f) (t : ByteArray) (d : Nat) (w : World) (ht : t.size ≤ 6000) (hf : t.size < 32 → t.size < f) (hd : d ≤ 300) :
    Calls Tryd.prog 66 #[.string t, .int .i64 (d : Int)] w fun e w' => RefPostX (refF (parseF f) t d) w e w' := by
  cases hx : txt t with
  | some b => exact parseRef_text (parseF f) t b d w ht hx
  | none =>
    by_cases h : 32 ≤ t.size
    · exact parseRef_long (parseF f) t d w ht hx h
    · exact parseRef_node f ih t d w hx (by omega) (hf (by omega)) hd
end Go.Proofs.YtkegignigkhleaaDoor
