/-
  OUR OWN: items: the program's Decode.
-/
import Derived.Test.YtoafiieciiijbaaItemJ
namespace Go.Proofs.Ytoafiieciiijbaa
open Go.RowKit
attribute [local go_sem ↓] Go.wp_at_zero Go.wp_at_succ

/-- what Decode answers -/
def decN (s : ByteArray) : Except Int (List Prt) :=
  if 6000 < s.size then .error 1 else match readN s 8 0 s.size with
    | .error x => .error x
    | .ok (qs, en) => if en ≠ s.size then .error 5 else if 400 < qs.length then .error 1 else .ok qs
def DecPost (res : Except Int (List Prt)) (w : World) (e : Ending) (w' : World) : Prop :=
  match res with
  | .error x => e = .returned (.tuple #[.slice none 0 0, .int .i64 x]) ∧ Below w.heap.size w w'
  | .ok qs => ∃ v, e = .returned (.tuple #[v, .int .i64 0]) ∧ w'.ownsRow w.heap.size 24 3 v qs.length (pcells qs) ∧ Below w.heap.size w w'

theorem fr_below {B : Nat} {lv lv' : Value} {w w1 w' : World} (hb : Below w.heap.size w w1) (hB : w.heap.size ≤ B) (hl : ∀ k, lv.ownBlock = some k → w.heap.size ≤ k) (h : Fr B lv lv' w1 w') : Below w.heap.size w w' :=
  hb.trans ⟨h.os, h.tape, h.output, h.size, fun k hk => h.block k (Nat.lt_of_lt_of_le hk hb.size) (by omega) (fun e => absurd (hl k e) (by omega))⟩

theorem St.start (w : World) (s : ByteArray) : St (w.alloc (.cells #[.string s, .slice none 0 0] 95)) w.heap.size s (.slice none 0 0) [] :=
  ⟨heap_alloc_new w _, World.ownsRow_nil _ _ _ _⟩

set_option maxHeartbeats 2000000 in
set_option maxRecDepth 20000 in
theorem iDecode_any (s : ByteArray) (w : World) (hm : s.size ≤ 9223372036854775807) :
    Calls Try.prog 30 #[.string s] w fun e w' => DecPost (decN s) w e w' := by
  unfold decN
  by_cases h1 : 6000 < s.size
  · rw [if_pos h1]
    have c1 : (6000 : Int) < (s.size : Int) := by omega
    go_enter Try.func30, Try.ntmps30
    go_wp2
    go_ret2
    exact ⟨rfl, Below.refl _ _⟩
  · rw [if_neg h1]
    have c1 : (s.size : Int) ≤ 6000 := by omega
    have hr := read_any s (by omega) 8 0 rfl w.heap.size 0 s.size (.slice none 0 0) [] (w.alloc (.cells #[.string s, .slice none 0 0] 95)) (St.start w s) (Nat.le_refl _) (Nat.zero_le _) (Nat.le_refl _)
    have hbb : Below w.heap.size w (w.alloc (.cells #[.string s, .slice none 0 0] 95)) := below_alloc _ _
    have HB := hide hbb
    clear hbb hm
    cases hres : readN s 8 0 s.size with
    | error x =>
      rw [hres] at hr
      have hx : (x != 0) = true := by simpa using readN_err s 8 0 s.size x hres
      have HR := hide hr
      clear hr hres
      go_enter Try.func30, Try.ntmps30
      go_wp2_with fail
      refine HR.out.mono ?_
      rintro e w1 ⟨⟨n, rfl⟩, lv1, hf⟩
      have HF := hide (fr_below HB.out (Nat.le_refl _) (fun k e => by cases e) hf)
      clear hf
      go_wp2
      go_ret2
      exact ⟨rfl, HF.out⟩
    | ok y =>
      obtain ⟨qs, en⟩ := y
      rw [hres] at hr
      have HR := hide hr
      have hl := readN_len s 8 0 s.size qs en hres
      clear hr hres
      simp only
      by_cases h2 : en = s.size
      · rw [if_neg (by simpa using h2)]
        subst h2
        by_cases h3 : 400 < qs.length
        · rw [if_pos h3]
          have c3 : (400 : Int) < (qs.length : Int) := by omega
          go_enter Try.func30, Try.ntmps30
          go_wp2_with fail
          refine HR.out.mono ?_
          rintro e w1 ⟨rfl, lv1, hf, hst⟩
          have HF := hide (fr_below HB.out (Nat.le_refl _) (fun k e => by cases e) hf)
          have hp := hst.parts
          have HO := hide (own_base hst.own (Nat.le_succ _))
          obtain ⟨ao, c, hlv⟩ : ∃ ao c, lv1 = .slice ao qs.length c := by
            rcases hst.own.2 with ⟨rfl, h0⟩ | ⟨g, c, cur, rfl, _⟩
            · exact ⟨none, 0, by rw [show qs.length = 0 from h0]⟩
            · exact ⟨_, _, rfl⟩
          subst hlv
          clear hf hst
          go_wp2
          go_ret2
          exact ⟨rfl, HF.out⟩
        · rw [if_neg h3]
          have c3 : (qs.length : Int) ≤ 400 := by omega
          go_enter Try.func30, Try.ntmps30
          go_wp2_with fail
          refine HR.out.mono ?_
          rintro e w1 ⟨rfl, lv1, hf, hst⟩
          have HF := hide (fr_below HB.out (Nat.le_refl _) (fun k e => by cases e) hf)
          have hp := hst.parts
          have HO := hide (own_base hst.own (Nat.le_succ _))
          obtain ⟨ao, c, hlv⟩ : ∃ ao c, lv1 = .slice ao qs.length c := by
            rcases hst.own.2 with ⟨rfl, h0⟩ | ⟨g, c, cur, rfl, _⟩
            · exact ⟨none, 0, by rw [show qs.length = 0 from h0]⟩
            · exact ⟨_, _, rfl⟩
          subst hlv
          clear hf hst
          go_wp2
          go_ret2
          exact ⟨_, rfl, HO.out, HF.out⟩
      · rw [if_pos h2]
        have c2 : ((en : Int) != (s.size : Int)) = true := by simp; omega
        go_enter Try.func30, Try.ntmps30
        go_wp2_with fail
        refine HR.out.mono ?_
        rintro e w1 ⟨rfl, lv1, hf, hst⟩
        have HF := hide (fr_below HB.out (Nat.le_refl _) (fun k e => by cases e) hf)
        clear hf hst
        go_wp2
        go_ret2
        exact ⟨rfl, HF.out⟩

set_option maxRecDepth 20000 in
theorem cDecode_any (s : ByteArray) (w : World) (hm : s.size ≤ 9223372036854775807) :
    Calls Try.prog 11 #[.string s] w fun e w' => DecPost (decN s) w e w' := by
  have HR := hide (iDecode_any s w hm)
  clear hm
  cases hd : decN s with
  | error x =>
    rw [hd] at HR
    go_enter Try.func11, Try.ntmps11
    go_wp2_with fail
    refine HR.out.mono ?_
    rintro e w1 ⟨rfl, hb⟩
    go_wp2
    go_ret2
    exact ⟨rfl, hb⟩
  | ok qs =>
    rw [hd] at HR
    go_enter Try.func11, Try.ntmps11
    go_wp2_with fail
    refine HR.out.mono ?_
    rintro e w1 ⟨v, rfl, ho, hb⟩
    go_wp2
    go_ret2
    exact ⟨v, rfl, ho, hb⟩
end Go.Proofs.Ytoafiieciiijbaa
