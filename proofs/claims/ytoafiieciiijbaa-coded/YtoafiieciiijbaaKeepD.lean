/-
  OUR OWN: parts that still want some items to be one item (for canopykeep.made).
-/
import Derived.Test.YtoafiieciiijbaaEncFp
namespace Go.Proofs.Ytoafiieciiijbaa
open Go.RowKit

/-- with o items behind them the parts are one item -/
def Pre (qs : List Prt) (o : Nat) : Prop := ∀ {T : Type} (txt : ByteArray → T) (lst : List T → T) (st rest : List T), st.length = o → ∃ x : T, foldT txt lst (qs.map toI) (st ++ rest) = some (x :: rest)
theorem Pre.start : Pre [] 1 := by
  intro T txt lst st rest h
  obtain ⟨x, rfl⟩ := List.length_eq_one_iff.1 h
  exact ⟨x, rfl⟩
theorem Pre.list {qs : List Prt} {o n : Nat} (h : Pre qs o) (ho : 0 < o) : Pre (qs ++ [(true, n, ⟨#[]⟩)]) (o - 1 + n) := by
  intro T txt lst st rest hl
  have e : foldT txt lst ([(true, n, (⟨#[]⟩ : ByteArray))].map toI) (st ++ rest) = some ((lst (st.take n) :: st.drop n) ++ rest) := by
    have hs : sndP (toI (true, n, ⟨#[]⟩)) = true := by simp [sndP, toI, ByteArray.size]
    have hc : (toI (true, n, ⟨#[]⟩)).2.1 = (n : Int) := rfl
    simp only [List.map_cons, List.map_nil, foldT, hs, hc]
    rw [if_pos ⟨trivial, by simp; omega⟩]
    have h1 : (toI (true, n, ⟨#[]⟩)).1 = true := rfl
    rw [if_pos h1]
    simp only [Int.toNat_natCast]
    rw [List.take_append_of_le_length (by omega), List.drop_append_of_le_length (by omega)]
    rfl
  obtain ⟨x, hx⟩ := h txt lst (lst (st.take n) :: st.drop n) rest (by simp; omega)
  refine ⟨x, ?_⟩
  rw [List.map_append, foldT_append, e]
  exact hx
theorem Pre.text {qs : List Prt} {o : Nat} (h : Pre qs o) (ho : 0 < o) (b : ByteArray) : Pre (qs ++ [(false, 0, b)]) (o - 1) := by
  intro T txt lst st rest hl
  obtain ⟨x, hx⟩ := h txt lst (txt b :: st) rest (by simp; omega)
  refine ⟨x, ?_⟩
  rw [List.map_append, foldT_append, Vl.text txt lst b (st ++ rest)]
  exact hx
theorem Pre.done {qs : List Prt} (h : Pre qs 0) {T : Type} (txt : ByteArray → T) (lst : List T → T) : ∃ x : T, foldS txt lst (qs.map toI) = some [x] := by
  obtain ⟨x, hx⟩ := h txt lst [] [] rfl
  rw [List.append_nil, foldT_nil] at hx
  exact ⟨x, hx⟩
end Go.Proofs.Ytoafiieciiijbaa
