/-
  OUR OWN: codes: the program's fold over codes.
-/
import Derived.Test.YtoafiieciiijbaaEncE
namespace Go.Proofs.Ytoafiieciiijbaa
open Go.RowKit
attribute [local go_sem ↓] Go.wp_at_zero Go.wp_at_succ

def totS (cs : List ByteArray) : Nat := (cs.map (·.size)).sum
def totP (ps : List IPrt) : Nat := (ps.map (fun p => p.2.2.size + 8)).sum
theorem hdr_length (mark n : Nat) : (hdr mark n).length ≤ 8 := by
  unfold hdr; split
  · simp
  · have := cntB_le7 n
    simp [lenS_length]; omega
theorem headS_size (mark : Nat) (s : ByteArray) : (headS mark s).size ≤ s.size + 8 := by
  unfold headS
  rw [ByteArray.size_append, strOfNums_size]
  have := hdr_length mark s.size
  omega
theorem textC_size (s : ByteArray) : (textC s).size ≤ s.size + 8 := by
  unfold textC; split
  · omega
  · exact headS_size _ _
theorem textC_ge (s : ByteArray) : s.size ≤ (textC s).size := by
  unfold textC; split
  · omega
  · unfold headS; rw [ByteArray.size_append]; omega
theorem joinB_size (cs : List ByteArray) : (joinB cs).size = totS cs := by
  have e : (joinB cs).size = (cs.flatMap (fun x => x.data.toList)).length := by show (List.toArray _).size = _; rw [List.size_toArray]
  rw [e]
  unfold totS
  induction cs with
  | nil => rfl
  | cons x r ih => simp only [List.flatMap_cons, List.length_append, List.map_cons, List.sum_cons, ih (by show (List.toArray _).size = _; rw [List.size_toArray])]; rfl
theorem listC_size (cs : List ByteArray) : (listC cs).size ≤ totS cs + 8 := by
  unfold listC
  have := headS_size 192 (joinB cs)
  rw [joinB_size] at this
  exact this
theorem totS_append (a b : List ByteArray) : totS (a ++ b) = totS a + totS b := by simp [totS]
theorem totS_split (cs : List ByteArray) (c : Nat) : totS (cs.take c) + totS (cs.drop c) = totS cs := by rw [← totS_append, List.take_append_drop]
theorem totP_append (a b : List IPrt) : totP (a ++ b) = totP a + totP b := by simp [totP]
theorem totP_drop (ps : List IPrt) (k : Nat) : totP (ps.drop k) ≤ totP ps := by
  have : totP (ps.take k) + totP (ps.drop k) = totP ps := by
    rw [← totP_append, List.take_append_drop]
  omega
theorem totP_cons (p : IPrt) (ps : List IPrt) : totP (p :: ps) = p.2.2.size + 8 + totP ps := by simp [totP]
theorem totS_cons (x : ByteArray) (r : List ByteArray) : totS (x :: r) = x.size + totS r := by simp [totS]

/-- the codes that are ready -/
structure RdC (w : World) (R n : Nat) (st : List ByteArray) : Prop where
  blk : ∃ cur, w.heap[R]? = some (.cells cur 9 (0, 0)) ∧ cur.size = n
  len : st.length ≤ n
  at' : ∀ j x, st[j]? = some x → w.cell? ⟨R, (n - st.length) + j, none⟩ = some (.string x)
theorem RdC.keep {w w' : World} {R n : Nat} {st : List ByteArray} (h : RdC w R n st) (hb : w'.heap[R]? = w.heap[R]?) : RdC w' R n st := by
  refine ⟨?_, h.len, fun j x hj => ?_⟩
  · rw [hb]; exact h.blk
  · exact (World.cell?_of_block (w := w) (a := ⟨R, (n - st.length) + j, none⟩) hb).trans (h.at' j x hj)
theorem RdC.lt {w : World} {R n : Nat} {st : List ByteArray} (h : RdC w R n st) : R < w.heap.size := by
  obtain ⟨cur, h1, _⟩ := h.blk
  exact (Array.getElem?_eq_some_iff.1 h1).1
theorem RdC.cell {w : World} {R n : Nat} {st : List ByteArray} (h : RdC w R n st) (j : Nat) (hj : j < n) : (∃ u, w.cell? ⟨R, j, none⟩ = some u) ∧ w.frozen? ⟨R, j, none⟩ = false := by
  obtain ⟨cur, h1, h2⟩ := h.blk
  refine ⟨?_, frozen_of_row w R j _ _ h1⟩
  rw [cell_of_row w R j _ _ (0, 0) h1]
  exact ⟨_, Array.getElem?_eq_getElem (by omega)⟩
theorem RdC.push {w : World} {R n : Nat} {st : List ByteArray} (h : RdC w R n st) (c f : Nat) (hc : c ≤ st.length) (hf : f + (st.length - c) + 1 = n) (m : ByteArray) :
    RdC (w.setCell ⟨R, f, none⟩ (.string m)) R n (m :: st.drop c) := by
  obtain ⟨cur, h1, h2⟩ := h.blk
  have e1 := heap_setCell_same w R f cur 9 (.string m) h1
  have hl : (m :: st.drop c).length = st.length - c + 1 := by simp
  refine ⟨⟨_, e1, by simp [h2]⟩, by omega, fun j x hj => ?_⟩
  have hfn : n - (m :: st.drop c).length = f := by omega
  rw [hfn, cell_of_row _ R (f + j) _ _ (0, 0) e1]
  cases j with
  | zero =>
    obtain rfl : m = x := by simpa using hj
    simp [Array.getElem?_setIfInBounds, h2]
    omega
  | succ j =>
    have hx : st[c + j]? = some x := by simpa using hj
    have hj2 : c + j < st.length := (List.getElem?_eq_some_iff.1 hx).1
    have a := h.at' (c + j) x hx
    have hln := h.len
    have ea : n - st.length + (c + j) = f + (j + 1) := by omega
    rw [ea, cell_of_row w R _ _ _ (0, 0) h1] at a
    rw [Array.getElem?_setIfInBounds_ne (by omega)]
    exact a
theorem make_ss (n : Nat) (h : n ≤ 400) (w : World) : (Instr.makeSlice 58 (.int .i64 (n : Int)) (.int .i64 (n : Int))).run Try.prog w =
    .ok (.slice (some ⟨w.heap.size, 0, none⟩) n n) (w.alloc (.cells (madeCells #[.string ⟨#[]⟩] n) 9)) := by
  obtain ⟨i0, hi, hz0, hz1, hz2⟩ := info_parts (show (Try.prog.info? 9).map (fun i => (i.zero, i.size, i.bytes)) = some (some (.string ⟨#[]⟩), 1, 16) by kernel_rfl)
  have h := run_make (P := Try.prog) w 58 9 i0 (.string ⟨#[]⟩) Try.underlying58 hi hz0 .i64 .i64 (n : Int) (n : Int) (by omega) (by omega) (by rw [hz2]; omega) (by omega)
  simpa [hz1, Value.cells] using h

set_option maxHeartbeats 4000000 in
set_option maxRecDepth 20000 in
theorem foldC_any (ao : Option Addr) (cap : Nat) (ps : List IPrt) (w : World) (hn : ps.length ≤ 400) (hp : IPrts w ao ps) (hs : ∀ i st, foldS textC listC (ps.drop i) = some st → totS st < 16777216) :
    Calls Try.prog 44 #[.slice ao ps.length cap, .func (.func 45) #[] #[], .func (.func 46) #[] #[]] w fun e w' => e = .returned (.tuple #[.string (foldO ⟨#[]⟩ (foldS textC listC ps)).1, .bool (foldO ⟨#[]⟩ (foldS textC listC ps)).2]) ∧ Below w.heap.size w w' := by
  obtain ⟨M, hM, hmk⟩ : ∃ M : Array Value, Hid (M.size = ps.length) ∧ ∀ W : World, (Instr.makeSlice 58 (.int .i64 (ps.length : Int)) (.int .i64 (ps.length : Int))).run Try.prog W = .ok (.slice (some ⟨W.heap.size, 0, none⟩) ps.length ps.length) (W.alloc (.cells M 9)) :=
    ⟨_, by show _ = _; rw [size_madeCells], make_ss ps.length hn⟩
  have HP := hide hp
  have HSz := hide hs
  clear hp hs
  have nI : (ps.length : Int) ≤ 400 := by omega
  go_enter Try.func44, Try.ntmps44
  go_wp2
  obtain ⟨W0, hW0⟩ : ∃ W0, W0 = w.alloc (.cells M 9) := ⟨_, rfl⟩
  have HR0 : Hid (RdC W0 w.heap.size ps.length []) := by
    refine ⟨⟨M, ?_, hM.out⟩, Nat.zero_le _, fun j x hj => by simp at hj⟩
    rw [hW0]
    exact heap_alloc_new w _
  have HBW : Hid (Below w.heap.size w W0) := by
    show Below _ _ _
    rw [hW0]
    exact below_alloc _ _
  rw [← hW0]
  clear hW0 hmk
  obtain ⟨R, hR⟩ : ∃ R, Hid (w.heap.size = R) := ⟨_, rfl⟩
  rw [hR.out] at HR0 ⊢
  go_loopw [10, 11] (fun fv iv wr => ∃ (k : Nat) (st : List ByteArray), k ≤ ps.length ∧ iv = .int .i64 ((k : Int) - 1) ∧ foldS textC listC (ps.drop k) = some st ∧ fv = .int .i64 ((ps.length - st.length : Nat) : Int) ∧ RdC wr R ps.length st ∧ Below R W0 wr ∧ st.length ≤ ps.length - k) (fun _ iv _ => (intOf iv + 1).toNat)
  case atStart => exact ⟨ps.length, [], Nat.le_refl _, rfl, by simp [foldS], by simp, HR0.out, Below.refl _ _, by simp⟩
  case round =>
    obtain ⟨k, st, hk, rfl, hf, rfl, hrd, hbw, hsl⟩ := hrel
    have HF := hide hf
    have HRd := hide hrd
    have HBR := hide hbw
    have HBD : Hid (totS st < 16777216) := HSz.out _ _ hf
    clear hf hrd hbw
    have HBA : Hid (Below w.heap.size w wr) := HBW.out.trans (HBR.out.mono (by have := hR.out; omega))
    have hle := HRd.out.len
    cases k with
    | zero =>
      have HF0 : Hid (foldS textC listC ps = some st) := by have := HF.out; show _ = _; simpa using this
      by_cases h1 : st.length = 1
      · obtain ⟨m, rfl⟩ := List.length_eq_one_iff.1 h1
        obtain ⟨F, hF⟩ : ∃ F, Hid (ps.length - [m].length = F) := ⟨_, rfl⟩
        have hFe : (F : Int) = (ps.length : Int) - 1 := by have := hF.out; simp at this hle; omega
        have hFn : ((F : Int) != (ps.length : Int) - 1) = false := by simp [hFe]
        have m0 := HRd.out.at' 0 m rfl
        rw [hF.out] at m0 ⊢
        simp only [Nat.add_zero] at m0
        have hF0 : (0 : Int) ≤ (F : Int) := by omega
        have hFl : (F : Int) < (ps.length : Int) := by omega
        clear hFe
        rw [show ((0 : Nat) : Int) - 1 = -1 from rfl]
        go_wp2
        go_ret2
        exact ⟨by rw [HF0.out]; rfl, HBA.out⟩
      · obtain ⟨F, hF⟩ : ∃ F, Hid (ps.length - st.length = F) := ⟨_, rfl⟩
        have hFn : ((F : Int) != (ps.length : Int) - 1) = true := by have := hF.out; simp; omega
        rw [hF.out]
        have HO : Hid (foldO ⟨#[]⟩ (some st) = (⟨#[]⟩, false)) := by
          show _ = _
          match st, h1 with
          | [], _ => rfl
          | [x], h => simp at h
          | x :: y :: r, _ => rfl
        rw [show ((0 : Nat) : Int) - 1 = -1 from rfl]
        go_wp2
        go_ret2
        exact ⟨by rw [HF0.out, HO.out]; rfl, HBA.out⟩
    | succ i =>
      have hi : i < ps.length := by omega
      rw [show ((i + 1 : Nat) : Int) - 1 = (i : Int) from by omega]
      obtain ⟨b, off, hao, p0, p1, p2⟩ := HP.out.keep HBA.out (Nat.le_refl _) i hi
      subst hao
      have hpg : ps.getD i (false, 0, ⟨#[]⟩) = ps[i] := by simp [List.getD_eq_getElem?_getD, hi]
      have HDr : Hid (ps.drop i = ps.getD i (false, 0, ⟨#[]⟩) :: ps.drop (i + 1)) := by show _ = _; rw [hpg]; exact drop_step ps i hi
      clear hpg
      generalize ps.getD i (false, 0, ⟨#[]⟩) = p at *
      obtain ⟨l, c, d⟩ := p
      simp only at p0 p1 p2
      have HPW : Hid (P3 (wr.alloc (.cells #[.bool l, .int .i64 c, .string d] 24)) wr.heap.size (l, c, d)) := heap_alloc_new wr _
      have HBP : Hid (Below R W0 (wr.alloc (.cells #[.bool l, .int .i64 c, .string d] 24))) := HBR.out.alloc (by have := HRd.out.lt; omega) _
      have HRP : Hid (RdC (wr.alloc (.cells #[.bool l, .int .i64 c, .string d] 24)) R ps.length st) := HRd.out.keep (Below.heap_alloc _ _ _ HRd.out.lt)
      have HRl : Hid (R < wr.heap.size) := HRd.out.lt
      have b0 : (0 : Int) ≤ (i : Int) := by omega
      have b1 : (i : Int) < (ps.length : Int) := by omega
      go_wp2_with fail
      refine (sound_any (l, c, d) _).mono ?_
      rintro e w1 ⟨rfl, hb1⟩
      have HB1 : Hid (Below R W0 w1) := HBP.out.trans (hb1.mono (by have := HRl.out; simp; omega))
      have HR1 : Hid (RdC w1 R ps.length st) := HRP.out.keep (hb1.block _ (by have := HRl.out; simp; omega))
      have HP1 : Hid (P3 w1 wr.heap.size (l, c, d)) := HPW.out.keep (hb1.block _ (by simp))
      have HPl : Hid (wr.heap.size < w1.heap.size) := by have := hb1.size; simp at this; show _ < _; omega
      clear hb1 HBP HRP HPW
      obtain ⟨q0, q1, q2⟩ := HP1.out.get
      simp only at q0 q1 q2
      have HBA1 : Hid (Below w.heap.size w w1) := HBW.out.trans (HB1.out.mono (by have := hR.out; omega))
      clear p0 p1 p2
      obtain ⟨F, hF⟩ : ∃ F, Hid (ps.length - st.length = F) := ⟨_, rfl⟩
      rw [hF.out]
      have hFs : (ps.length : Int) - (F : Int) = (st.length : Int) := by have := hF.out; omega
      have bad : sndP (l, c, d) = false ∨ (st.length : Int) < c → foldS textC listC ps = none := fun h => foldS_drop_none ps i (by
        rw [HDr.out]
        refine foldS_bad HF.out ?_
        rintro ⟨h1, h2⟩
        rcases h with h | h
        · rw [h] at h1; cases h1
        · simp only at h2; omega)
      cases hsn : sndP (l, c, d) with
      | false =>
        have HN := hide (bad (.inl hsn))
        clear bad hsn
        go_wp2
        go_ret2
        exact ⟨by rw [HN.out]; rfl, HBA1.out⟩
      | true =>
        by_cases hc : (st.length : Int) < c
        · have HN := hide (bad (.inr hc))
          have hc2 : (ps.length : Int) - (F : Int) < c := by omega
          clear bad hsn
          go_wp2
          go_ret2
          exact ⟨by rw [HN.out]; rfl, HBA1.out⟩
        · have hc0 : 0 ≤ c := snd_count hsn
          obtain ⟨C, rfl⟩ : ∃ C : Nat, c = (C : Int) := ⟨c.toNat, by omega⟩
          have hCs : C ≤ st.length := by omega
          have HSN := hide hsn
          clear bad hsn hc0
          have hFl : (F : Int) ≤ (ps.length : Int) := by have := hF.out; omega
          have hC1 : (C : Int) ≤ (ps.length : Int) - (F : Int) := by have := hF.out; omega
          have hC2 : (F : Int) + (C : Int) ≤ (ps.length : Int) := by omega
          have hFi : i + 1 ≤ F := by have := hF.out; omega
          have hFF := hF.out
          cases l with
          | false =>
            obtain rfl : C = 0 := by have := HSN.out; simp [sndP] at this; omega
            obtain ⟨f, hf⟩ : ∃ f : Nat, f + 1 = F := ⟨F - 1, by omega⟩
            have hfe : (F : Int) + -1 = (f : Int) := by omega
            have hf0 : (0 : Int) ≤ (f : Int) := by omega
            have hf1 : (f : Int) < (ps.length : Int) := by omega
            have HNew : Hid (foldS textC listC (ps.drop i) = some (textC d :: List.drop 0 st)) := by
              show _ = _
              rw [HDr.out, foldS_text HF.out ⟨HSN.out, by simp⟩ rfl]
              simp
            have HTD := hide (HSz.out _ _ HNew.out)
            have HTc := hide (textCode_any d w1 (by have h1 := HTD.out; rw [totS_cons] at h1; have := textC_ge d; omega))
            go_wp2_with fail
            refine HTc.out.mono ?_
            rintro e w2 ⟨rfl, hb2⟩
            have HB2 : Hid (Below R W0 w2) := HB1.out.trans (hb2.mono (by have := HPl.out; have := HRl.out; omega))
            have HR2 : Hid (RdC w2 R ps.length st) := HR1.out.keep (hb2.block _ HR1.out.lt)
            obtain ⟨_, v1, _⟩ := (HP1.out.keep (hb2.block _ HPl.out)).get
            simp only at v1
            obtain ⟨⟨u0, hu0⟩, hv0⟩ := HR2.out.cell f (by omega)
            clear hb2 q0 q1 q2 HTc
            generalize textC d = m at *
            go_wp2
            go_roundw
            case rel => exact ⟨i, m :: List.drop 0 st, by omega, rfl, HNew.out, by congr 1; simp; omega, HR2.out.push 0 f (by omega) (by omega) m, HB2.out.setCell (Nat.le_refl _) _, by simp; omega⟩
            case measure => simp [intOf] <;> omega
          | true =>
            have hlt2 : totS (List.take C st) ≤ totS st := by have := totS_split st C; omega
            have HNew : Hid (foldS textC listC (ps.drop i) = some (listC (List.take C st) :: List.drop C st)) := by
              show _ = _
              rw [HDr.out, foldS_list HF.out ⟨HSN.out, by simpa using hc⟩ rfl]
              simp
            have htl : (List.take C st).length = C := by rw [List.length_take]; omega
            by_cases hst : st = []
            · subst hst
              obtain rfl : C = 0 := by simpa using hCs
              obtain rfl : F = ps.length := by simp at hFF; omega
              obtain ⟨f, hf⟩ : ∃ f : Nat, f + 1 = ps.length := ⟨ps.length - 1, by omega⟩
              have hfe : (ps.length : Int) + -1 = (f : Int) := by omega
              have hf0 : (0 : Int) ≤ (f : Int) := by omega
              have hf1 : (f : Int) < (ps.length : Int) := by omega
              have HML := hide (listCode_any R 0 0 [] w1 (fun j x hj => by simp at hj) (by simp) (by simp) (by rw [joinB_size]; simp [totS]))
              go_wp2_with fail
              refine HML.out.mono ?_
              rintro e w2 ⟨rfl, hb2⟩
              have HB2 : Hid (Below R W0 w2) := HB1.out.trans (hb2.mono (by have := HPl.out; have := HRl.out; omega))
              have HR2 : Hid (RdC w2 R ps.length []) := HR1.out.keep (hb2.block _ HR1.out.lt)
              obtain ⟨_, v1, _⟩ := (HP1.out.keep (hb2.block _ HPl.out)).get
              simp only at v1
              obtain ⟨⟨u0, hu0⟩, hv0⟩ := HR2.out.cell f (by omega)
              clear hb2 q0 q1 q2 HML
              rw [show List.take 0 ([] : List ByteArray) = [] from rfl] at HNew
              generalize listC ([] : List ByteArray) = m at *
              go_wp2
              go_roundw
              case rel => exact ⟨i, m :: List.drop 0 ([] : List ByteArray), by omega, rfl, HNew.out, by congr 1; simp; omega, HR2.out.push 0 f (by simp) (by simp; omega) m, HB2.out.setCell (Nat.le_refl _) _, by simp; omega⟩
              case measure => simp [intOf] <;> omega
            · have hst0 : 0 < st.length := List.length_pos_iff.2 hst
              have hne : ¬ ps.length = F := by omega
              obtain ⟨f, hf⟩ : ∃ f : Nat, f + 1 = F + C := ⟨F + C - 1, by omega⟩
              have hfe : (F : Int) + ((C : Int) - 1) = (f : Int) := by omega
              have hf0 : (0 : Int) ≤ (f : Int) := by omega
              have hf1 : (f : Int) < (ps.length : Int) := by omega
              have HML0 := listCode_any R F (ps.length - F) (List.take C st) w1 (fun j x hj => by
                have hj1 : st[j]? = some x := by
                  rw [List.getElem?_take] at hj
                  split at hj
                  · exact hj
                  · cases hj
                have := HR1.out.at' j x hj1
                rwa [hF.out] at this) (by omega) (by omega) (by rw [joinB_size]; have := HBD.out; omega)
              rw [htl] at HML0
              have HML := hide HML0
              clear HML0 htl
              go_wp2_with fail
              refine HML.out.mono ?_
              rintro e w2 ⟨rfl, hb2⟩
              have HB2 : Hid (Below R W0 w2) := HB1.out.trans (hb2.mono (by have := HPl.out; have := HRl.out; omega))
              have HR2 : Hid (RdC w2 R ps.length st) := HR1.out.keep (hb2.block _ HR1.out.lt)
              obtain ⟨_, v1, _⟩ := (HP1.out.keep (hb2.block _ HPl.out)).get
              simp only at v1
              obtain ⟨⟨u0, hu0⟩, hv0⟩ := HR2.out.cell f (by omega)
              clear hb2 q0 q1 q2 HML
              generalize listC (List.take C st) = m at *
              go_wp2
              go_roundw
              case rel => exact ⟨i, m :: List.drop C st, by omega, rfl, HNew.out, by congr 1; simp; omega, HR2.out.push C f (by omega) (by omega) m, HB2.out.setCell (Nat.le_refl _) _, by simp; omega⟩
              case measure => simp [intOf] <;> omega
end Go.Proofs.Ytoafiieciiijbaa
