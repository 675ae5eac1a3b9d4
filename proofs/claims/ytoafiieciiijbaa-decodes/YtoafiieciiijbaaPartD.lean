/-
  OUR OWN: the walk of the law Decodes.
-/
import Derived.Test.YtoafiieciiijbaaPartC
import Derived.Test.YtoafiieciiijbaaItemW
import Derived.Test.YtoafiieciiijbaaDecF
namespace Go.Proofs.Ytoafiieciiijbaa
open Go.RowKit

theorem decN_len (s : ByteArray) : (outOf (decN s)).length ≤ 400 := by
  unfold decN
  split
  · simp [outOf]
  · split
    · simp [outOf]
    · split
      · simp [outOf]
      · split
        · simp [outOf]
        · simp only [outOf]; omega
theorem prts_own {w : World} {base e : Nat} {ao : Option Addr} {c : Nat} {qs : List Prt} (h : w.ownsRow base e 3 (.slice ao qs.length c) qs.length (pcells qs)) : Prts w ao qs := by
  rcases h.2 with ⟨h0, hn⟩ | ⟨g, c', cur, hv, _⟩
  · exact .inl (List.length_eq_zero_iff.1 hn)
  · obtain ⟨rfl, _⟩ : ao = some ⟨g, 0, none⟩ ∧ c = c' := by simpa using hv
    refine .inr ⟨g, rfl, fun j u hj => ?_⟩
    rw [h.cellAt j (by have := (List.getElem?_eq_some_iff.1 hj).1; rw [pcells_length] at this; exact this)]
    exact hj

/-- (*Book).parts, at every list of the caller's own -/
theorem parts_own (L2 : Value) (B : Nat) (l2 l3 l4 l5 l6 : Value) (N2 q : Nat) (rows : List Value) (lv : Value) (n : Nat) (xs : List Value) (w : World)
    (hB : w.heap[B]? = some (.cells #[L2, l2, l3, l4, l5, l6] 39 (0, 0))) (h2 : w.ownsRow 0 22 1 L2 N2 rows) (hq : (N2 : Int) / 4 = (q : Int)) (hN2 : N2 ≤ 100) (hq1 : q ≤ 25)
    (hl : w.ownsRow 0 24 3 lv n xs) (hn : n ≤ 1000000) (hBl : lv.ownBlock ≠ some B) (hB2 : L2.ownBlock ≠ some B) (h2l : L2.ownBlock = none ∨ L2.ownBlock ≠ lv.ownBlock) :
    Calls Try.prog 14 #[.pointer (some ⟨B, 0, none⟩), lv] w fun e w' => e = .returned (.tuple #[]) ∧ PartPost w w' B l2 l3 l4 l5 l6 L2 N2 rows lv n (.int .i64 (-7 - (q : Int))) := by
  rcases hl.2 with ⟨h, h0⟩ | ⟨g, c, cur, h, _⟩
  · subst h; subst h0
    exact parts_nil L2 B l2 l3 l4 l5 l6 N2 q rows w hB h2 hq hN2 hq1 hB2
  · exact parts_some L2 B l2 l3 l4 l5 l6 N2 q rows lv n g c h xs w hB h2 hq hN2 hq1 hl hn hBl hB2 h2l

set_option maxRecDepth 100000 in
set_option maxHeartbeats 3200000 in
theorem decodes_any (s : ByteArray) (w : World) (hm : s.size ≤ 9223372036854775807) :
    Calls Try.prog 4 #[.string s] w fun e w' => e = .returned (.bool true) ∧ Below w.heap.size w w' := by
  have HLen : Hid ((outOf (decN s)).length ≤ 400) := decN_len s
  have HC : Hid (∀ W, Calls Try.prog 11 #[.string s] W fun e w' => ∃ ao c, e = .returned (.tuple #[.slice ao (outOf (decN s)).length c, .int .i64 (errOf (decN s))]) ∧ w'.ownsRow W.heap.size 24 3 (.slice ao (outOf (decN s)).length c) (outOf (decN s)).length (pcells (outOf (decN s))) ∧ Below W.heap.size W w') := fun W => (cDecode_any s W hm).mono fun e w' h => h.form
  have HR : Hid (∀ W, Calls Try.prog 12 #[.string s] W fun e w' => ∃ ao c, e = .returned (.tuple #[.slice ao (outOf (decN s)).length c, .int .i64 (errOf (decN s))]) ∧ w'.ownsRow W.heap.size 24 3 (.slice ao (outOf (decN s)).length c) (outOf (decN s)).length (pcells (outOf (decN s))) ∧ Below W.heap.size W w') := fun W => (rDecode_any s W hm).mono fun e w' h => h.form
  generalize outOf (decN s) = qs at *
  generalize errOf (decN s) = er at *
  have HBK : Hid ((w.alloc (.cells #[.slice none 0 0, .slice none 0 0, .slice none 0 0, .slice none 0 0, .slice none 0 0, .slice none 0 0] 39)).heap[w.heap.size]? = some (.cells #[.slice none 0 0, .slice none 0 0, .slice none 0 0, .slice none 0 0, .slice none 0 0, .slice none 0 0] 39 (0, 0))) := heap_alloc_new w _
  have HBW : Hid (Below w.heap.size w (w.alloc (.cells #[.slice none 0 0, .slice none 0 0, .slice none 0 0, .slice none 0 0, .slice none 0 0, .slice none 0 0] 39))) := below_alloc w _
  clear hm
  go_enter Try.func4, Try.ntmps4
  go_wp2_with fail
  generalize World.alloc w _ = W at *
  have HWs : Hid (w.heap.size < W.heap.size) := (Array.getElem?_eq_some_iff.1 HBK.out).1
  refine (HC.out W).mono ?_
  rintro e w5 ⟨al, cl, rfl, hol, hb5⟩
  have HOL := hide hol
  have HB5 : Hid (Below W.heap.size W w5) := hb5
  clear hb5 hol
  go_wp2_with fail
  refine (HR.out w5).mono ?_
  rintro e w6 ⟨am, cm, rfl, hom, hb6⟩
  have HOM := hide hom
  have HB56 : Hid (Below w5.heap.size w5 w6) := hb6
  clear hb6 hom
  go_wp2_with fail
  refine (sameParts_eq al am cl cm qs w6 (by have := HLen.out; omega) (prts_own (own_far HOL.out (fun g e hlt => HB56.out.block g hlt))) (prts_own HOM.out)).mono ?_
  rintro e w7 ⟨rfl, q7, rfl⟩
  have HB57 : Hid (Below w5.heap.size w5 (w6.drewN q7)) := below_drewN HB56.out q7
  have HOM7 : Hid ((w6.drewN q7).ownsRow w5.heap.size 24 3 (.slice am qs.length cm) qs.length (pcells qs)) := HOM.out
  generalize w6.drewN q7 = w7 at *
  clear HOM HB56
  have HB7 : Hid (Below W.heap.size W w7) := HB5.out.trans (HB57.out.mono HB5.out.size)
  have HLB : Hid (∀ k, (Value.slice al qs.length cl).ownBlock = some k → W.heap.size ≤ k ∧ k < w5.heap.size) := fun k e => HOL.out.lt k e
  have HMB : Hid (∀ k, (Value.slice am qs.length cm).ownBlock = some k → w5.heap.size ≤ k ∧ k < w7.heap.size) := fun k e => HOM7.out.lt k e
  go_wp2_with fail
  refine (parts_own (.slice none 0 0) w.heap.size (.slice none 0 0) (.slice none 0 0) (.slice none 0 0) (.slice none 0 0) (.slice none 0 0) 0 0 [] (.slice al qs.length cl) qs.length (pcells qs) w7 (by rw [HB7.out.block _ HWs.out]; exact HBK.out) (World.ownsRow_nil _ _ _ _) (by omega) (by omega) (by omega) (own_far (own0 HOL.out) (fun g e hlt => HB57.out.block g hlt)) (by have := HLen.out; omega) (fun e => by
    have := HLB.out _ e; have := HWs.out; omega) (by simp [Value.ownBlock]) (.inl rfl)).mono ?_
  rintro e w8 ⟨rfl, P1⟩
  have HP1 := hide P1
  obtain ⟨L2, x, y, z, hbk, hoL, ml, mx, my, mz, ha, ha2⟩ := P1.ends
  have HE := hide (And.intro hbk (And.intro hoL (And.intro ml (And.intro mx (And.intro my (And.intro mz (And.intro ha ha2)))))))
  clear P1 hbk hoL ml mx my mz ha ha2
  have HOM8 : Hid (w8.ownsRow w5.heap.size 24 3 (.slice am qs.length cm) qs.length (pcells qs)) := own_far HOM7.out (fun g e hlt => HP1.out.far g hlt (fun e2 => by
    have := HMB.out g e; have := HWs.out; have := HB5.out.size; omega) (fun e2 => by
    have := HMB.out g e; have := HLB.out g e2.symm; omega) (by simp [Value.ownBlock]))
  go_wp2_with fail
  refine (HC.out w8).mono ?_
  rintro e w9 ⟨ak, ck, rfl, hok, hb9⟩
  have HOK := hide hok
  have HB9 : Hid (Below w8.heap.size w8 w9) := hb9
  clear hb9 hok
  go_wp2_with fail
  refine (sameParts_eq ak am ck cm qs w9 (by have := HLen.out; omega) (prts_own HOK.out) (prts_own (own_far HOM8.out (fun g e hlt => HB9.out.block g hlt)))).mono ?_
  rintro e w10 ⟨rfl, q10, rfl⟩
  have HB10 : Hid (Below w8.heap.size w8 (w9.drewN q10)) := below_drewN HB9.out q10
  have HOK10 : Hid ((w9.drewN q10).ownsRow w8.heap.size 24 3 (.slice ak qs.length ck) qs.length (pcells qs)) := HOK.out
  generalize w9.drewN q10 = w10 at *
  have HKB0 : Hid (∀ k, (Value.slice ak qs.length ck).ownBlock = some k → w8.heap.size ≤ k ∧ k < w10.heap.size) := fun k e => HOK10.out.lt k e
  have HB8 : Hid (w.heap.size < w8.heap.size) := (Array.getElem?_eq_some_iff.1 HE.out.1).1
  clear HB9 HOK
  go_wp2_with fail
  refine (parts_own L2 w.heap.size (.slice none 0 0) (.slice none 0 0) (.slice none 0 0) (.slice none 0 0) (.slice none 0 0) 4 1 [.slice al qs.length cl, x, y, z] (.slice ak qs.length ck) qs.length (pcells qs) w10 (by rw [HB10.out.block _ HB8.out]; exact HE.out.1) (own_far (by simpa using HE.out.2.1) (fun g _ hlt => HB10.out.block g hlt)) (by omega) (by omega) (by omega) (own0 HOK10.out) (by have := HLen.out; omega) (fun e => by
    have := HKB0.out _ e; have := HB8.out; omega) (fun e => (HE.out.2.2.2.2.2.2.2 _ e).1 rfl) (by
    cases hk : L2.ownBlock with
    | none => exact .inl rfl
    | some k => exact .inr (fun e => by have := HKB0.out k e.symm; have := (HE.out.2.2.2.2.2.2.2 _ hk).2.1; omega))).mono ?_
  rintro e w11 ⟨rfl, P2⟩
  have HP2 := hide P2
  have HK := hide (booked3 (B := w.heap.size) (n := qs.length) (n2 := qs.length) (by have := HLen.out; omega) (by have := HLen.out; omega) HE.out.2.2.1 HE.out.2.2.2.1 HE.out.2.2.2.2.1 HE.out.2.2.2.2.2.1 (fun u hu k e => ⟨(HE.out.2.2.2.2.2.2.1 u hu k e).1, (HE.out.2.2.2.2.2.2.1 u hu k e).2.1, (HE.out.2.2.2.2.2.2.1 u hu k e).2.2.1⟩) HB10.out (fun k e => (HKB0.out k e).1) P2)
  clear P2
  obtain ⟨LL, vs, kb, ko, kv⟩ := HK.out
  have HKB := hide (And.intro kb (And.intro ko kv))
  clear kb ko kv HK
  go_wp2_with fail
  refine (looks_of w.heap.size LL (.slice none 0 0) w11 HKB.out.1 ?_).mono ?_
  · rintro w' ⟨n', rfl⟩
    refine (small_parts w.heap.size LL (.slice none 0 0) (.slice none 0 0) (.slice none 0 0) (.slice none 0 0) 8 vs (w11.drewN n') HKB.out.1 HKB.out.2.1 (by omega) HKB.out.2.2).mono ?_
    rintro e w' ⟨rfl, rfl⟩
    exact ⟨rfl, n', rfl⟩
  rintro e w12 ⟨rfl, q12, rfl⟩
  have HFin : Hid (Below w.heap.size w (w11.drewN q12)) := by
    refine below_drewN ?_ q12
    have hw : w.heap.size ≤ W.heap.size := HBW.out.size
    have h8 : Below w.heap.size w w8 := HP1.out.under (HBW.out.trans (HB7.out.mono hw)) (Nat.le_trans hw HB7.out.size) (Nat.le_refl _) (fun k e => by
      have := HLB.out k e; omega) (fun k e => by simp [Value.ownBlock] at e)
    refine HP2.out.under (h8.trans (HB10.out.mono h8.size)) (Nat.le_trans h8.size HB10.out.size) (Nat.le_refl _) (fun k e => by
      have := HKB0.out k e; have := HB8.out; omega) (fun k e => ?_)
    rcases (HE.out.2.2.2.2.2.2.2 k e).2.2 with h | h
    · simp [Value.ownBlock] at h
    · exact Nat.le_trans (Nat.le_trans hw HB7.out.size) h
  go_wp2_with fail
  refine (num_any _ _).mono ?_
  rintro e w13 ⟨rfl, rfl⟩
  go_wp2_with fail
  refine (num_any _ _).mono ?_
  rintro e w13 ⟨rfl, rfl⟩
  go_wp2
  go_ret
  exact ⟨rfl, HFin.out⟩
end Go.Proofs.Ytoafiieciiijbaa
