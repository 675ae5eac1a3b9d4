/-
  OUR OWN: NqA.
-/
import Derived.Test.YtgepjjebjhidiaaGreatDoorG30
import Derived.LaidEqlPtr
import Derived.LaidEql
namespace Go.Proofs.YtgepjjebjhidiaaGreatDoor
open Go.RowKit

theorem under_node : ∃ ms, Tryz.prog.underlying 55 = some (.interface ms) := ⟨_, Tryz.underlying55⟩
theorem neq_ptr_same {t te : TypeId} {j i : TypeInfo} (b : Nat) (W : World) (hp : Tryz.prog.underlying t = some (.pointer te)) (hte : Tryz.prog.info? te = some j) (hti : Tryz.prog.info? t = some i) (hc : i.comparable = true) :
    (binOp .neq 55 (.iface t (ptr b)) (.iface t (ptr b))).run Tryz.prog W = .ok (.bool false) W := by
  obtain ⟨ms, ht⟩ := under_node
  have h : ∀ d : Nat, (Op.equalIn (d + 2) 55 (.iface t (ptr b)) (.iface t (ptr b))).run Tryz.prog W = .ok true W := fun d => by
    unfold ptr
    simp [Op.equalIn, run_underlying ht, run_underlying hp, typeInfo, hti, hc, sizeOf, hte, run_sameAddr_same]
  simp only [binOp]
  simp [Op.equal, Op.maxDepth, h 9998]
theorem neq_ptr_other {t te : TypeId} {j i : TypeInfo} {b b' : Nat} {ca cb : Array Value} {ta tb : TypeId} (W : World) (hp : Tryz.prog.underlying t = some (.pointer te)) (hte : Tryz.prog.info? te = some j) (hsz : j.size ≠ 0) (hti : Tryz.prog.info? t = some i) (hc : i.comparable = true)
    (hne : b ≠ b') (ha : W.heap[b]? = some (.cells ca ta (0, 0))) (hb : W.heap[b']? = some (.cells cb tb (0, 0))) :
    (binOp .neq 55 (.iface t (ptr b)) (.iface t (ptr b'))).run Tryz.prog W = .ok (.bool true) W := by
  obtain ⟨ms, ht⟩ := under_node
  have hne2 : (⟨b, 0, none⟩ : Addr) ≠ ⟨b', 0, none⟩ := fun e => hne (by injection e)
  have h : ∀ d : Nat, (Op.equalIn (d + 2) 55 (.iface t (ptr b)) (.iface t (ptr b'))).run Tryz.prog W = .ok false W := fun d => by
    unfold ptr
    simp [Op.equalIn, run_underlying ht, run_underlying hp, typeInfo, hti, hc, sizeOf, hte, hsz, run_sameAddr_other W hne2 ha hb]
  simp only [binOp]
  simp [Op.equal, Op.maxDepth, h 9998]
theorem neq_kinds {t t' : TypeId} (b b' : Nat) (W : World) (hne : t ≠ t') : (binOp .neq 55 (.iface t (ptr b)) (.iface t' (ptr b'))).run Tryz.prog W = .ok (.bool true) W := by
  obtain ⟨ms, ht⟩ := under_node
  have h : ∀ d : Nat, (Op.equalIn (d + 2) 55 (.iface t (ptr b)) (.iface t' (ptr b'))).run Tryz.prog W = .ok false W := fun d => by
    simp [Op.equalIn, run_underlying ht, hne]
  simp only [binOp]
  simp [Op.equal, Op.maxDepth, h 9998]
theorem infoN {te : TypeId} {k : Nat} (h : (Tryz.prog.info? te).map (·.size) = some (k + 1)) : ∃ j, Tryz.prog.info? te = some j ∧ j.size ≠ 0 := by
  cases hi : Tryz.prog.info? te with
  | none => rw [hi] at h; cases h
  | some j =>
    rw [hi] at h
    have e : j.size = k + 1 := by simpa using h
    exact ⟨j, rfl, by omega⟩
theorem infoC {te : TypeId} (h : (Tryz.prog.info? te).map (·.comparable) = some true) : ∃ j, Tryz.prog.info? te = some j ∧ j.comparable = true := by
  cases hi : Tryz.prog.info? te with
  | none => rw [hi] at h; cases h
  | some j =>
    rw [hi] at h
    exact ⟨j, rfl, by simpa using h⟩
theorem ptr_inj {t : TypeId} {b b' : Nat} (h : Value.iface t (ptr b) = .iface t (ptr b')) : b = b' := by
  unfold ptr at h
  injection h with _ h
  injection h with h
  injection h with h
  injection h with h
theorem neq_one {t te : TypeId} {b b' : Nat} {ca cb : Array Value} (W : World) (hp : Tryz.prog.underlying t = some (.pointer te)) {k : Nat} (hs : (Tryz.prog.info? te).map (·.size) = some (k + 1)) (hc : (Tryz.prog.info? t).map (·.comparable) = some true)
    (ha : W.heap[b]? = some (.cells ca te (0, 0))) (hb : W.heap[b']? = some (.cells cb te (0, 0))) :
    ∃ r, (binOp .neq 55 (.iface t (ptr b)) (.iface t (ptr b'))).run Tryz.prog W = .ok (.bool r) W ∧ (r = false ↔ Value.iface t (ptr b) = .iface t (ptr b')) := by
  obtain ⟨j, hj, hj0⟩ := infoN hs
  obtain ⟨i, hi, hic⟩ := infoC hc
  by_cases e : b = b'
  · subst e
    exact ⟨false, neq_ptr_same b W hp hj hi hic, by simp⟩
  · exact ⟨true, neq_ptr_other W hp hj hj0 hi hic e ha hb, Iff.intro (fun h => absurd h (by decide)) (fun h => absurd (ptr_inj h) e)⟩
/-- two nodes: the same one, or not -/
theorem node_neq {ok : Nat → Prop} {m n : Nd} {v u : Value} {W : World} (hm : NdAt HkC ok W m v) (hn : NdAt HkC ok W n u) (hm0 : m ≠ .nil) (hn0 : n ≠ .nil) :
    ∃ r, (binOp .neq 55 v u).run Tryz.prog W = .ok (.bool r) W ∧ (r = false ↔ v = u) := by
  have kd : ∀ {t t' : TypeId} (b b' : Nat), t ≠ t' → ∃ r, (binOp .neq 55 (.iface t (ptr b)) (.iface t' (ptr b'))).run Tryz.prog W = .ok (.bool r) W ∧ (r = false ↔ Value.iface t (ptr b) = .iface t' (ptr b')) := fun b b' h => ⟨true, neq_kinds b b' W h, by simp [h]⟩
  cases m with
  | nil => exact absurd rfl hm0
  | leaf p x =>
    obtain ⟨b, _, _, rfl, _, _, h2, _⟩ := hm
    cases n with
    | nil => exact absurd rfl hn0
    | leaf p x => obtain ⟨b', _, _, rfl, _, _, h2', _⟩ := hn; exact neq_one W Tryz.underlying97 (k := 1) (by kernel_rfl) (by kernel_rfl) h2 h2'
    | ext p n => obtain ⟨b', _, _, _, _, rfl, _, _, h2', _⟩ := hn; exact kd b b' (by decide)
    | br c x => obtain ⟨b', _, _, rfl, _, h2', _⟩ := hn; exact kd b b' (by decide)
  | ext p m =>
    obtain ⟨b, _, _, _, _, rfl, _, _, h2, _⟩ := hm
    cases n with
    | nil => exact absurd rfl hn0
    | leaf p x => obtain ⟨b', _, _, rfl, _, _, h2', _⟩ := hn; exact kd b b' (by decide)
    | ext p n => obtain ⟨b', _, _, _, _, rfl, _, _, h2', _⟩ := hn; exact neq_one W Tryz.underlying168 (k := 2) (by kernel_rfl) (by kernel_rfl) h2 h2'
    | br c x => obtain ⟨b', _, _, rfl, _, h2', _⟩ := hn; exact kd b b' (by decide)
  | br c x =>
    obtain ⟨b, _, _, rfl, _, h2, _⟩ := hm
    cases n with
    | nil => exact absurd rfl hn0
    | leaf p x => obtain ⟨b', _, _, rfl, _, _, h2', _⟩ := hn; exact kd b b' (by decide)
    | ext p n => obtain ⟨b', _, _, _, _, rfl, _, _, h2', _⟩ := hn; exact kd b b' (by decide)
    | br c x => obtain ⟨b', _, _, rfl, _, h2', _⟩ := hn; exact neq_one W Tryz.underlying170 (k := 32) (by kernel_rfl) (by kernel_rfl) h2 h2'
end Go.Proofs.YtgepjjebjhidiaaGreatDoor
