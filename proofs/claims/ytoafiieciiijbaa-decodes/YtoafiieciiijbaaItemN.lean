/-
  OUR OWN: items: the reference's items in memory; its cut, where there is no list.
-/
import Derived.Test.YtoafiieciiijbaaItemM
namespace Go.Proofs.Ytoafiieciiijbaa
open Go.RowKit
attribute [local go_sem ↓] Go.wp_at_zero Go.wp_at_succ

/-- three cells hold an item whose parts are these; its rows lie in blocks that are ok -/
def ItIs : Nat → World → (Nat → Prop) → List Value → List Prt → Prop
  | 0, _, _, cs, ps => ∃ b : ByteArray, cs = [.bool false, .string b, .slice none 0 0] ∧ ps = [(false, 0, b)]
  | r + 1, w, ok, cs, ps => (∃ b : ByteArray, cs = [.bool false, .string b, .slice none 0 0] ∧ ps = [(false, 0, b)]) ∨
    ∃ (v : Value) (css : List (List Value)) (pss : List (List Prt)), cs = [.bool true, .string ⟨#[]⟩, v] ∧ w.ownsRow 0 66 3 v css.length css.flatten ∧ (∀ g, v.ownBlock = some g → ok g) ∧
      css.length = pss.length ∧ (∀ i, i < css.length → ItIs r w ok (css.getD i []) (pss.getD i [])) ∧ ps = (true, css.length, ⟨#[]⟩) :: pss.flatten
theorem ItIs.text (r : Nat) (w : World) (ok : Nat → Prop) (b : ByteArray) : ItIs r w ok [.bool false, .string b, .slice none 0 0] [(false, 0, b)] := by
  cases r with
  | zero => exact ⟨b, rfl, rfl⟩
  | succ r => exact .inl ⟨b, rfl, rfl⟩
theorem ItIs.keep {w w' : World} {ok ok' : Nat → Prop} (hk : ∀ k, ok k → k < w.heap.size → w'.heap[k]? = w.heap[k]? ∧ ok' k) : ∀ {r : Nat} {cs : List Value} {ps : List Prt}, ItIs r w ok cs ps → ItIs r w' ok' cs ps
  | 0, _, _, h => h
  | r + 1, cs, ps, h => by
    rcases h with h | ⟨v, css, pss, h1, h2, h3, h4, h5, h6⟩
    · exact .inl h
    · have hlt : ∀ g, v.ownBlock = some g → g < w.heap.size := by
        intro g e
        rcases h2.2 with ⟨rfl, _⟩ | ⟨g', c, cur, rfl, _, hg, _⟩
        · cases e
        · obtain rfl : g' = g := by simpa [Value.ownBlock] using e
          rcases Nat.lt_or_ge g' w.heap.size with h1 | h1
          · exact h1
          · rw [Array.getElem?_eq_none h1] at hg; cases hg
      exact .inr ⟨v, css, pss, h1, own_far h2 (fun g e hg => (hk g (h3 g e) hg).1), fun g e => (hk g (h3 g e) (hlt g e)).2, h4, fun i hi => ItIs.keep hk (h5 i hi), h6⟩
theorem ItIs.len {w : World} {ok : Nat → Prop} {r : Nat} {cs : List Value} {ps : List Prt} (h : ItIs r w ok cs ps) : cs.length = 3 := by
  cases r with
  | zero => obtain ⟨b, rfl, _⟩ := h; rfl
  | succ r =>
    rcases h with ⟨b, rfl, _⟩ | ⟨v, css, pss, rfl, _⟩ <;> rfl

def it0 : Value := .agg #[.bool false, .string ⟨#[]⟩, .slice none 0 0]
/-- what a call of cut answers -/
def CutPost (r : Nat) (res : Except Int (List Prt × Nat)) (a : Nat) (w : World) (e : Ending) (w' : World) : Prop :=
  match res with
  | .error x => e = .returned (.tuple #[it0, .int .i64 0, .int .i64 x]) ∧ Below w.heap.size w w'
  | .ok (ps, en) => ∃ c0 c1 c2, e = .returned (.tuple #[.agg #[c0, c1, c2], .int .i64 ((en - a : Nat) : Int), .int .i64 0]) ∧ ItIs r w' (fun k => w.heap.size ≤ k) [c0, c1, c2] ps ∧ Below w.heap.size w w'

set_option maxHeartbeats 1000000 in
set_option maxRecDepth 20000 in
theorem cut_empty (d : Nat) (w : World) :
    Calls Try.prog 49 #[.string ⟨#[]⟩, .int .i64 (d : Int)] w fun e w' => e = .returned (.tuple #[it0, .int .i64 0, .int .i64 3]) ∧ Below w.heap.size w w' := by
  go_enter Try.func49, Try.ntmps49
  go_wp2
  refine bodyPost_ret (v := .tuple #[it0, .int .i64 0, .int .i64 3]) (by simp [results, Try.results49, go_sem, it0]) rfl ⟨rfl, ?_⟩
  exact below_alloc _ _

set_option maxHeartbeats 1000000 in
set_option maxRecDepth 20000 in
theorem cut_own (t : ByteArray) (d : Nat) (w : World) (h0 : 0 < t.size) (hb : byteN t 0 < 128) :
    Calls Try.prog 49 #[.string t, .int .i64 (d : Int)] w fun e w' => e = .returned (.tuple #[.agg #[.bool false, .string (t.extract 0 1), .slice none 0 0], .int .i64 1, .int .i64 0]) ∧ Below w.heap.size w w' := by
  have HB := hide (byteN_eq t 0 h0)
  have h3 : (t[0].toNat : Int) < 128 := by rw [HB.out]; omega
  have b2 : (0 : Int) < (t.size : Int) := by omega
  have b3 : ((t.size : Int) == 0) = false := beq_false_of_ne (by omega)
  clear hb
  go_enter Try.func49, Try.ntmps49
  go_wp2
  refine bodyPost_ret (v := .tuple #[.agg #[.bool false, .string (t.extract 0 1), .slice none 0 0], .int .i64 1, .int .i64 0]) (by simp [results, Try.results49, go_sem]) rfl ⟨rfl, ?_⟩
  exact below_alloc _ _

set_option maxHeartbeats 2000000 in
set_option maxRecDepth 20000 in
/-- bytes with a head ahead: the head is none -/
theorem cut_textE (t : ByteArray) (d z : Nat) (w : World) (h0 : 0 < t.size) (ht : t.size ≤ 6000) (hb : byteN t 0 = 128 + z) (hz : z ≤ 63) (er : Int) (her : er ≠ 0) (hsp : spanN t 0 z t.size = ((0, 0), er)) :
    Calls Try.prog 49 #[.string t, .int .i64 (d : Int)] w fun e w' => e = .returned (.tuple #[it0, .int .i64 0, .int .i64 er]) ∧ Below w.heap.size w w' := by
  have HB := hide (byteN_eq t 0 h0)
  have h3 : (t[0].toNat : Int) = 128 + (z : Int) := by rw [HB.out]; omega
  have HS : Hid (∀ W, Calls Try.prog 62 #[.string t, .int .i64 (128 + (z : Int) - 128)] W fun e w' => e = .returned (.tuple #[.int .i64 0, .int .i64 0, .int .i64 er]) ∧ w' = W) := by
    intro W
    have h := span_any t z W ht hz
    rw [hsp] at h
    rwa [show (z : Int) = 128 + (z : Int) - 128 from by omega] at h
  have b2 : (0 : Int) < (t.size : Int) := by omega
  have b3 : ((t.size : Int) == 0) = false := beq_false_of_ne (by omega)
  have b4 : (z : Int) ≤ 63 := by omega
  have b5 : (0 : Int) ≤ (z : Int) := by omega
  have e1 : (er == 0) = false := beq_false_of_ne her
  have e2 : (er != 0) = true := by simpa using her
  clear hb hsp hz her
  go_enter Try.func49, Try.ntmps49
  go_wp2_with fail
  refine (HS.out _).mono ?_
  rintro e w1 ⟨rfl, rfl⟩
  go_wp2
  refine bodyPost_ret (v := .tuple #[it0, .int .i64 0, .int .i64 er]) (by simp [results, Try.results49, go_sem, it0]) rfl ⟨rfl, ?_⟩
  exact below_alloc _ _
end Go.Proofs.Ytoafiieciiijbaa
