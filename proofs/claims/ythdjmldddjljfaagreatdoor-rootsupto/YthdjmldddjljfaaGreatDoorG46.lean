/-
  OUR OWN: CoD CoE.
-/
import Derived.Test.YthdjmldddjljfaaGreatDoorG45
namespace Go.Proofs.YthdjmldddjljfaaGreatDoor
open Go.RowKit
attribute [local go_sem ↓] Go.wp_at_zero Go.wp_at_succ

def codePost (ok : Nat → Prop) (n : Nd) (w : World) (e : Ending) (w' : World) : Prop := e = .returned (.string n.code) ∧ KeepH ok w w'
/-- a node's code may be asked for -/
def NCodeOk (n : Nd) : Prop := ∀ (ok : Nat → Prop) (b : Nat) (w : World), TbZ w → (∀ k, ok k → 3 ≤ k ∧ k < w.heap.size) → CB n → match n with
  | .nil => True
  | .leaf q v => NdAt HkC ok w (.leaf q v) (.iface 153 (ptr b)) → Calls Tryz.prog 205 #[ptr b] w fun e w' => codePost ok (.leaf q v) w e w'
  | .ext q m => NdAt HkC ok w (.ext q m) (.iface 250 (ptr b)) → Calls Tryz.prog 229 #[ptr b] w fun e w' => codePost ok (.ext q m) w e w'
  | .br c x => NdAt HkC ok w (.br c x) (.iface 252 (ptr b)) → Calls Tryz.prog 237 #[ptr b] w fun e w' => codePost ok (.br c x) w e w'
theorem refCode_any (n : Nd) (ih : NCodeOk n) (ok : Nat → Prop) (b off : Nat) (u : Value) (h : ByteArray) (w : World) (hT : TbZ w) (hok : ∀ k, ok k → 3 ≤ k ∧ k < w.heap.size) (hS : Slot ok w b off u h) (hn : NdAt HkC ok w n u) (hC : CB n) (hh : h = e0 ∨ HkC n h) :
    Calls Tryz.prog 228 #[.pointer (some ⟨b, off, none⟩)] w fun e w' => e = .returned (.string (refB n.isNil n.code)) ∧ KeepH ok w w' := by
  by_cases hnil : n = .nil
  · subst hnil
    obtain rfl : u = .nilIface := hn
    obtain rfl : h = e0 := by
      rcases hh with h | h
      · exact h
      · exact absurd rfl h.1
    refine (refCode_nil b off w hS.node hS.hash).mono ?_
    rintro e w' ⟨rfl, hb⟩
    exact ⟨rfl, KeepH.of_below hb⟩
  · rcases hh with rfl | hh
    · have ih' := fun b => ih ok b w hT hok hC
      cases n with
      | nil => exact absurd rfl hnil
      | leaf q v =>
        have hn' := hn
        obtain ⟨ub, _, _, rfl, _⟩ := hn'
        exact refCode_leaf ok (.leaf q v) b off ub w hT (fun k hk => (hok k hk).1) hS hn hC (ih' ub hn)
      | ext q m =>
        have hn' := hn
        obtain ⟨ub, _, _, _, _, rfl, _⟩ := hn'
        exact refCode_ext ok (.ext q m) b off ub w hT (fun k hk => (hok k hk).1) hS hn hC (ih' ub hn)
      | br c x =>
        have hn' := hn
        obtain ⟨ub, _, _, rfl, _⟩ := hn'
        exact refCode_br ok (.br c x) b off ub w hT (fun k hk => (hok k hk).1) hS hn hC (ih' ub hn)
    · obtain ⟨t, ub, rfl⟩ := hn.some hnil
      refine (refCode_hash n b off t ub h w hS.node hS.hash hh).mono ?_
      rintro e w' ⟨rfl, hb⟩
      exact ⟨rfl, KeepH.of_below hb⟩
set_option maxHeartbeats 4000000 in
set_option maxRecDepth 20000 in
theorem extCode_any (q : List Nat) (m : Nd) (ih : NCodeOk m) (ok : Nat → Prop) (b : Nat) (w : World) (hT : TbZ w) (hok : ∀ k, ok k → 3 ≤ k ∧ k < w.heap.size) (hC : CB (.ext q m)) (hn : NdAt HkC ok w (.ext q m) (.iface 250 (ptr b))) :
    Calls Tryz.prog 229 #[ptr b] w fun e w' => codePost ok (.ext q m) w e w' := by
  have hn0 := hn
  obtain ⟨b', ao, cap, u, h, hb', o1, _, hb, hq, h0, hc, hm, hh⟩ := hn
  obtain rfl : b = b' := by simpa [ptr] using hb'
  have hql : q.length ≤ 128 := hC.len.1
  have hAt : ∀ W, KeepH ok w W → ∃ h', W.heap[b]? = some (.cells #[.slice ao q.length cap, u, .string h'] 282 (0, 0)) ∧ Nums W ao q ∧ NdAt HkC ok W m u ∧ (h' = e0 ∨ HkC m h') := fun W hW => by
    obtain ⟨h', e1⟩ := hW.ext b _ u h hb
    obtain ⟨b2, ao2, cap2, u2, h2, k1, _, _, k2, k3, _, _, k4, k5⟩ := hW.node ok _ _ hn0
    obtain rfl : b = b2 := by simpa [ptr] using k1
    rw [e1] at k2
    simp only [Option.some.injEq, Obj.cells.injEq] at k2
    obtain ⟨⟨rfl, _⟩, rfl, rfl⟩ : (ao = ao2 ∧ cap = cap2) ∧ u = u2 ∧ h' = h2 := by simpa using k2.1
    exact ⟨h', e1, k3, k4, k5⟩
  have HCl : Hid (∀ W, KeepH ok w W → W.cell? ⟨b, 0, none⟩ = some (.slice ao q.length cap)) := fun W hW => by
    obtain ⟨h', e1, _⟩ := hAt W hW
    exact cell_of_row _ _ 0 _ _ (0, 0) e1
  have HPc : Hid (∀ W, KeepH ok w W → Calls Tryz.prog 211 #[.slice ao q.length cap, .bool false] W fun e w' => e = .returned (.string (pcode false q)) ∧ KeepH ok w w') := fun W hW => by
    obtain ⟨h', _, e2, _⟩ := hAt W hW
    refine (pathCode_any ao cap q false W e2 h0 hql hC.wf.2.1).mono ?_
    rintro e w' ⟨rfl, h⟩
    exact ⟨rfl, hW.trans (KeepH.of_below h)⟩
  have HRc : Hid (∀ W, KeepH ok w W → Calls Tryz.prog 228 #[.pointer (some ⟨b, 1, none⟩)] W fun e w' => e = .returned (.string (refB m.isNil m.code)) ∧ KeepH ok w w') := fun W hW => by
    obtain ⟨h', e1, e2, e3, e4⟩ := hAt W hW
    have hS : Slot ok W b 1 u h' := ⟨cell_of_row _ _ 1 _ _ (0, 0) e1, cell_of_row _ _ 2 _ _ (0, 0) e1, fun V hV => by
      obtain ⟨h2, k1, _⟩ := hAt V (hW.trans hV)
      exact ⟨cell_of_row _ _ 1 _ _ (0, 0) k1, ⟨h2, cell_of_row _ _ 2 _ _ (0, 0) k1⟩, frozen_of_row _ _ 2 _ _ k1, fun g hg => setHash_ext k1 o1 hg⟩⟩
    refine (refCode_any m ih ok b 1 u h' W (hT.keepH hW (fun k hk => (hok k hk).1)) (fun k hk => ⟨(hok k hk).1, Nat.lt_of_lt_of_le (hok k hk).2 hW.size⟩) hS e3 hC.ext e4).mono ?_
    rintro e w' ⟨rfl, h⟩
    exact ⟨rfl, hW.trans h⟩
  have HLc : Hid (∀ W, KeepH ok w W → Calls Tryz.prog 210 #[.slice (some ⟨W.heap.size, 0, none⟩) 2 2] (W.alloc (.cells #[.string (pcode false q), .string (refB m.isNil m.code)] 9)) fun e w' => codePost ok (.ext q m) w e w') := fun W hW => by
    have h1 := pcode_size (leaf := false) hql
    have h2 := refB_size m.isNil m.code
    refine (listTwo (pcode false q) (refB m.isNil m.code) W (by omega)).mono ?_
    rintro e w' ⟨rfl, h⟩
    exact ⟨rfl, hW.trans (KeepH.of_below h)⟩
  unfold codePost at *
  have c0 := HCl.out w (KeepH.of_below (Below.refl _ _))
  have HKd : Hid (KeepH ok w w.drew) := KeepH.of_below (Below.refl _ _).drew
  clear hb hq h0 hc hC hb' hm hh hn0 hAt hok hT ih hql o1
  generalize (Nd.ext q m).code = C at *
  generalize pcode false q = P1 at *
  generalize refB m.isNil m.code = P2 at *
  unfold ptr
  go_enter Tryz.func229, Tryz.ntmps229
  go_wp2_with fail
  go_region_held3 (fun W => W.cell? ⟨b, 0, none⟩ = some (.slice ao q.length cap)) (first | go_keep | (simp [*])) ((first
    | (go_at_call 211; refine (HPc.out _ (by first | exact HKd.out | exact HB3.out)).mono ?_; rintro e w2 ⟨rfl, hb2⟩; (have HB2 := hide hb2); (have d0 := HCl.out w2 hb2); clear hb2)
    | (go_at_call 228; refine (HRc.out _ (by first | exact HKd.out | exact HB2.out)).mono ?_; rintro e w3 ⟨rfl, hb3⟩; (have HB3 := hide hb3); (have i0 := HCl.out w3 hb3); clear hb3)
    | (go_at_call 210; (first | refine (HLc.out w3 HB3.out).mono ?_ | refine (HLc.out w2 HB2.out).mono ?_); rintro e w4 ⟨rfl, hb4⟩; (have HB4 := hide hb4); (have j0 := HCl.out w4 hb4); clear hb4)))
  all_goals
    go_wp2
    go_ret
    exact ⟨rfl, by first | exact HB4.out | exact HB4.out.trans (KeepH.of_below (Below.refl _ _).drew)⟩
theorem infoStr : (Tryz.prog.info? 9).map (fun i => (i.zero, i.size, i.bytes)) = some (some (.string ⟨#[]⟩), 1, 16) := by kernel_rfl
theorem make_codes (w : World) : (Instr.makeSlice 38 (.int .i64 0) (.int .i64 17)).run Tryz.prog w = .ok (.slice (some ⟨w.heap.size, 0, none⟩) 0 17) (w.alloc (.cells (madeCells #[.string ⟨#[]⟩] 17) 9)) := by
  obtain ⟨i0, hi, hz0, hz1, hz2⟩ := info_parts infoStr
  have h := run_make (P := Tryz.prog) w 38 9 i0 (.string ⟨#[]⟩) Tryz.underlying38 hi hz0 .i64 .i64 0 17 (by omega) (by omega) (by rw [hz2]; omega) (by omega)
  simpa [hz1, Value.cells] using h
/-- the codes of a branch's first references -/
def brCodes (c : Nat → Nd) (i : Nat) : List ByteArray := (List.range i).map (fun j => refB (c j).isNil (c j).code)
theorem brCodes_succ (c : Nat → Nd) (i : Nat) : brCodes c (i + 1) = brCodes c i ++ [refB (c i).isNil (c i).code] := by
  unfold brCodes; rw [List.range_succ, List.map_append]; rfl
theorem brCodes_len (c : Nat → Nd) (i : Nat) : (brCodes c i).length = i := by simp [brCodes]
theorem str_news (W : World) (s : ByteArray) : ∀ j u, [Value.string s][j]? = some u → (W.alloc (.cells #[.string s] 9)).cell? ((⟨W.heap.size, 0, none⟩ : Addr).add j) = some u :=
  World.news_of_block (cs := #[.string s]) (t := 9) (fr := (0, 0)) (heap_alloc_new W _)
set_option maxHeartbeats 8000000 in
set_option maxRecDepth 20000 in
theorem brCode_any (c : Nat → Nd) (x : ByteArray) (ih : ∀ i, NCodeOk (c i)) (ok : Nat → Prop) (b : Nat) (w : World) (hT : TbZ w) (hok : ∀ k, ok k → 3 ≤ k ∧ k < w.heap.size) (hC : CB (.br c x)) (hn : NdAt HkC ok w (.br c x) (.iface 252 (ptr b))) :
    Calls Tryz.prog 237 #[ptr b] w fun e w' => codePost ok (.br c x) w e w' := by
  obtain ⟨i0, hi, hz0, hz1, hz2⟩ := info_parts infoStr
  have hAt : ∀ W, KeepH ok w W → ∃ us hs, W.heap[b]? = some (.cells (brCells us hs x) 285 (0, 0)) ∧ ok b ∧ ∀ i, i < 16 → NdAt HkC ok W (c i) (us i) ∧ (hs i = e0 ∨ HkC (c i) (hs i)) := fun W hW => by
    obtain ⟨b2, us, hs, k1, k2, k3, k4⟩ := hW.node ok _ _ hn
    obtain rfl : b = b2 := by simpa [ptr] using k1
    exact ⟨us, hs, k3, k2, fun i hi => ⟨(k4 i hi).1, (k4 i hi).2.imp id (fun h => h.2)⟩⟩
  have HVal : Hid (∀ W, KeepH ok w W → W.cell? ⟨b, 32, none⟩ = some (.string x)) := fun W hW => by
    obtain ⟨us, hs, k1, _⟩ := hAt W hW
    exact br_val k1
  have HRc : Hid (∀ W i, KeepH ok w W → i < 16 → Calls Tryz.prog 228 #[.pointer (some ⟨b, i * 2, none⟩)] W fun e w' => e = .returned (.string (refB (c i).isNil (c i).code)) ∧ KeepH ok W w') := fun W i hW hi16 => by
    obtain ⟨us, hs, k1, k2, k3⟩ := hAt W hW
    have hS : Slot ok W b (i * 2) (us i) (hs i) := ⟨(br_ref k1 i hi16).1, (br_ref k1 i hi16).2, fun V hV => by
      obtain ⟨hs', e1⟩ := hV.br b us hs x k1
      exact ⟨(br_ref e1 i hi16).1, ⟨hs' i, (br_ref e1 i hi16).2⟩, frozen_of_row _ _ _ _ _ e1, fun g hg => (setHash_br hi16 e1 k2 hg).1⟩⟩
    exact refCode_any (c i) (ih i) ok b (i * 2) (us i) (hs i) W (hT.keepH hW (fun k hk => (hok k hk).1)) (fun k hk => ⟨(hok k hk).1, Nat.lt_of_lt_of_le (hok k hk).2 hW.size⟩) hS (k3 i hi16).1 (hC.kid i) (k3 i hi16).2
  have HFar : Hid (∀ W W' v n xs, KeepH ok w W → KeepH ok W W' → W.ownsRow w.heap.size 9 1 v n xs → W'.ownsRow w.heap.size 9 1 v n xs) := fun W W' v n xs hW hW' ho => own_far ho (fun g hg hl => hW'.far g hl (fun e => by have := (hok g e).2; have := own_ge ho (Nat.le_refl _) g hg; omega))
  have HTc := hide (fun W => textCode_any x W (by have := hC.val; omega))
  have HJ : Hid ((joinB (brCodes c 16 ++ [textC x])).size < 16777216) := by have := join_br hC; show _ < _; unfold brCodes; omega
  have HCd : Hid ((Nd.br c x).code = listC (brCodes c 16 ++ [textC x])) := rfl
  have hmk := make_codes w
  have HO0 : Hid ((w.alloc (.cells (madeCells #[.string ⟨#[]⟩] 17) 9)).ownsRow w.heap.size 9 1 (.slice (some ⟨w.heap.size, 0, none⟩) 0 17) 0 []) := World.ownsRow_made (base := w.heap.size) (e := 9) (size := 1) w _ 17 (Nat.le_refl _) (by unfold maxLen; omega) (by simp [madeCells])
  have HK0 : Hid (KeepH ok w (w.alloc (.cells (madeCells #[.string ⟨#[]⟩] 17) 9))) := KeepH.of_below (below_alloc _ _)
  have HKr : Hid (∀ W, KeepH ok w W → w.heap.size ≤ W.heap.size) := fun W h => h.size
  unfold codePost at *
  rw [HCd.out]
  clear hC hn hAt hok hT ih HCd
  generalize textC x = TX at *
  unfold ptr
  go_enter Tryz.func237, Tryz.ntmps237
  go_wp2_with fail
  generalize World.alloc w _ = W0 at *
  clear hmk
  go_loopw [3, 6] (fun v iv wr => ∃ i : Nat, i ≤ 16 ∧ iv = .int .i64 (i : Int) ∧ Hid (wr.ownsRow w.heap.size 9 1 v i ((brCodes c i).map Value.string)) ∧ Hid (KeepH ok w wr)) (fun _ iv _ => 16 - (intOf iv).toNat)
  case atStart => exact ⟨0, by omega, rfl, HO0, HK0⟩
  case round =>
    obtain ⟨i, hi', rfl, HO, HK⟩ := hrel
    by_cases hlt : i < 16
    · have j0 : (0 : Int) ≤ (i : Int) := by omega
      have j1 : (i : Int) < 16 := by omega
      have HR := hide (HRc.out wr i HK.out hlt)
      have HSc := hide (brCodes_succ c i)
      generalize refB (c i).isNil (c i).code = R at *
      go_wp2_with fail
      refine HR.out.mono ?_
      rintro e w2 ⟨rfl, hk2⟩
      have HK2 : Hid (KeepH ok w w2) := HK.out.trans hk2
      have HO2 := hide ((HFar.out wr w2 _ _ _ HK.out hk2 HO.out).alloc (.cells #[.string R] 9))
      clear hk2
      go_wp2_with (at_builtin; go_must (refine wpList_append_lies _ rfl (.tmp 9) (.tmp 16) 38 rfl w.heap.size 9 i0 _ 1 16 Tryz.underlying38 hi hz0 hz1 hz2 rfl (by omega) u3 i _ rfl HO2.out ⟨w2.heap.size, 0, none⟩ 1 1 [.string R] (by rfl) (by rfl) (str_news w2 R) (by simp [Value.oneCell']) (by omega) (by unfold maxLen; omega) (by omega) (by have := HKr.out w2 HK2.out; simp; omega) _ rfl ?_); intro g4 c4 w4 ho4 hg4 hat4 hlt4; go_must (have HX4 := hide (And.intro ho4 hg4)); clear ho4 hg4 hat4 hlt4)
      have HB4 : Hid (Below w.heap.size w2 w4) := ((below_alloc w2 _).mono (HKr.out w2 HK2.out)).grown HX4.out.2 (by have := HKr.out w2 HK2.out; simp; omega) (own_ge HO2.out (Nat.le_refl _))
      go_roundw
      case rel =>
        refine ⟨i + 1, by omega, by go_num, ?_, ?_⟩
        · have h := HX4.out.1
          show World.ownsRow _ _ _ _ _ _ _
          rw [HSc.out, List.map_append]
          exact h
        · exact HK2.out.after HB4.out
      case measure => simp [intOf]; omega
    · obtain rfl : i = 16 := by omega
      have cv := HVal.out wr HK.out
      have HTx := hide (HTc.out wr)
      go_wp2_with fail
      refine HTx.out.mono ?_
      rintro e w2 ⟨rfl, hb2⟩
      have HK2 : Hid (KeepH ok w w2) := HK.out.trans (KeepH.of_below hb2)
      have HO2 := hide ((HFar.out wr w2 _ _ _ HK.out (KeepH.of_below hb2) HO.out).alloc (.cells #[.string TX] 9))
      clear hb2
      go_wp2_with (at_builtin; go_must (refine wpList_append_lies _ rfl (.tmp 19) (.tmp 25) 38 rfl w.heap.size 9 i0 _ 1 16 Tryz.underlying38 hi hz0 hz1 hz2 rfl (by omega) u3 16 _ rfl HO2.out ⟨w2.heap.size, 0, none⟩ 1 1 [.string TX] (by rfl) (by rfl) (str_news w2 TX) (by simp [Value.oneCell']) (by omega) (by unfold maxLen; omega) (by omega) (by have := HKr.out w2 HK2.out; simp; omega) _ rfl ?_); intro g4 c4 w4 ho4 hg4 hat4 hlt4; go_must (have HX4 := hide (And.intro ho4 hg4)); clear ho4 hg4 hat4 hlt4)
      have HB4 : Hid (Below w.heap.size w2 w4) := ((below_alloc w2 _).mono (HKr.out w2 HK2.out)).grown HX4.out.2 (by have := HKr.out w2 HK2.out; simp; omega) (own_ge HO2.out (Nat.le_refl _))
      have HK4 : Hid (KeepH ok w w4) := HK2.out.after HB4.out
      have HLc : Hid (Calls Tryz.prog 210 #[.slice (some ⟨g4, 0, none⟩) 17 c4] w4 fun e w' => e = .returned (.string (listC (brCodes c 16 ++ [TX]))) ∧ Below w4.heap.size w4 w') := by
        have hlen : (brCodes c 16 ++ [TX]).length = 17 := by rw [List.length_append, brCodes_len]; rfl
        have hcap : 17 ≤ c4 := by
          rcases HX4.out.1.2 with ⟨h, _⟩ | ⟨g', c', cur, h, _, _, h4, _⟩
          · cases h
          · injection h with _ _ e; subst e; exact h4
        have h := listCode_any g4 0 c4 (brCodes c 16 ++ [TX]) w4 (fun j y hy => by
          have := HX4.out.1.cells (g := g4) rfl j (.string y) (by
            have e : (brCodes c 16).map Value.string ++ [.string TX] = (brCodes c 16 ++ [TX]).map Value.string := by simp
            rw [e, List.getElem?_map, hy]; rfl)
          rwa [addr_add] at this) (by omega) (by omega) HJ.out
        rwa [hlen] at h
      clear HX4 HO2
      go_wp2_with fail
      refine HLc.out.mono ?_
      rintro e w5 ⟨rfl, hb5⟩
      go_wp2
      go_ret
      exact ⟨rfl, HK4.out.trans (KeepH.of_below hb5)⟩
theorem nCode_all : ∀ (n : Nd), NCodeOk n
  | .nil => fun _ _ _ _ _ _ => trivial
  | .leaf q v => fun ok b w _ _ hC hn => by
    refine (leafCode_any HkC ok b q v w hn hC).mono ?_
    rintro e w' ⟨rfl, h⟩
    exact ⟨rfl, KeepH.of_below h⟩
  | .ext q m => fun ok b w hT hok hC hn => extCode_any q m (nCode_all m) ok b w hT hok hC hn
  | .br c x => fun ok b w hT hok hC hn => brCode_any c x (fun i => nCode_all (c i)) ok b w hT hok hC hn
end Go.Proofs.YthdjmldddjljfaaGreatDoor
namespace Go.Proofs.YthdjmldddjljfaaGreatDoor
open Go.RowKit
attribute [local go_sem ↓] Go.wp_at_zero Go.wp_at_succ

/-- the root of a tree -/
def rootOf (n : Nd) : ByteArray := if n.isNil = true then hashOf (textC e0) else hashOf n.code
theorem rootOf_size (n : Nd) : (rootOf n).size = 32 := by unfold rootOf; split <;> exact hashOf_size _
set_option maxHeartbeats 1000000 in
set_option maxRecDepth 20000 in
theorem rootOfNothing_any (w : World) (hT : TbZ w) : Calls Tryz.prog 48 #[] w fun e w' => e = .returned (.string (hashOf (textC e0))) ∧ Below w.heap.size w w' := by
  have HC := hide (textCode_any e0 w (by show 0 < 16777216; omega))
  have HS : Hid (∀ W, Below w.heap.size w W → Calls Tryz.prog 47 #[.string (textC e0)] W fun e w' => e = .returned (.string (hashOf (textC e0))) ∧ Below W.heap.size W w') := fun W hW => sumZ_any _ W (hT.keep hW) (by have := textC_size e0; have h : e0.size = 0 := rfl; omega)
  clear hT
  generalize hashOf (textC e0) = H at *
  generalize textC e0 = C at *
  go_enter Tryz.func48, Tryz.ntmps48
  go_wp2_with fail
  refine HC.out.mono ?_
  rintro e w1 ⟨rfl, hb⟩
  have HB := hide hb
  clear hb
  go_wp2_with fail
  refine (HS.out w1 HB.out).mono ?_
  rintro e w2 ⟨rfl, hb2⟩
  go_wp2
  go_ret
  exact ⟨rfl, HB.out.trans (hb2.mono HB.out.size)⟩
set_option maxHeartbeats 2000000 in
set_option maxRecDepth 20000 in
theorem tRoot_any (ok : Nat → Prop) (T : Nat) (st : Value) (n : Nd) (w : World) (hA : TreeAt HkC ok w T st n) (hO : TOk n) (hT : TbZ w) (hok : ∀ k, ok k → 3 ≤ k) :
    Calls Tryz.prog 19 #[ptr T] w fun e w' => e = .returned (.string (rootOf n)) ∧ KeepH ok w w' := by
  have hTl := hA.lt
  obtain ⟨u, hb, hn⟩ := hA.held
  have hok2 : ∀ k, ok k → 3 ≤ k ∧ k < w.heap.size := fun k hk => ⟨hok k hk, (hA.blk k hk).1⟩
  have c1 : w.cell? ⟨T, 1, none⟩ = some u := cell_of_row _ _ 1 _ _ (0, 0) hb
  have c2 : w.cell? ⟨T, 2, none⟩ = some (.string e0) := cell_of_row _ _ 2 _ _ (0, 0) hb
  have HSm : Hid (∀ W, KeepH ok w W → Calls Tryz.prog 47 #[.string n.code] W fun e w' => e = .returned (.string (hashOf n.code)) ∧ KeepH ok w w') := fun W hW => by
    refine (sumZ_any n.code W (hT.keepH hW hok) (by have := code_size hO.cb; omega)).mono ?_
    rintro e w' ⟨rfl, h⟩
    exact ⟨rfl, hW.trans (KeepH.of_below h)⟩
  have ih := fun b => nCode_all n ok b w hT hok2 hO.cb
  cases n with
  | nil =>
    obtain rfl : u = .nilIface := hn
    have HR := hide (rootOfNothing_any w hT)
    have HE : Hid (rootOf .nil = hashOf (textC e0)) := rfl
    rw [HE.out]
    clear hA hO hT hok hb hok2 ih HSm HE
    generalize hashOf (textC e0) = H at *
    unfold ptr
    go_enter Tryz.func19, Tryz.ntmps19
    go_wp2_with fail
    refine HR.out.mono ?_
    rintro e w2 ⟨rfl, hb2⟩
    go_wp2
    go_ret
    exact ⟨rfl, KeepH.of_below hb2⟩
  | leaf q v =>
    have hn' := hn
    obtain ⟨ub, _, _, rfl, _⟩ := hn'
    have HC := hide (ih ub hn)
    have HE : Hid (rootOf (.leaf q v) = hashOf (Nd.leaf q v).code) := rfl
    rw [HE.out]
    have hme := meth_co_leaf
    unfold codePost at HC
    clear hA hO hT hok hb hok2 ih HE hn
    generalize hashOf (Nd.leaf q v).code = H at *
    generalize (Nd.leaf q v).code = C at *
    unfold ptr at *
    go_enter Tryz.func19, Tryz.ntmps19
    go_wp2_with fail
    refine HC.out.mono ?_
    rintro e w2 ⟨rfl, hk2⟩
    have HS2 := hide (HSm.out w2 hk2)
    clear hk2
    go_wp2_with fail
    refine HS2.out.mono ?_
    rintro e w3 ⟨rfl, hk3⟩
    go_wp2
    go_ret
    exact ⟨rfl, hk3⟩
  | ext q m =>
    have hn' := hn
    obtain ⟨ub, _, _, _, _, rfl, _⟩ := hn'
    have HC := hide (ih ub hn)
    have HE : Hid (rootOf (.ext q m) = hashOf (Nd.ext q m).code) := rfl
    rw [HE.out]
    have hme := meth_co_ext
    unfold codePost at HC
    clear hA hO hT hok hb hok2 ih HE hn
    generalize hashOf (Nd.ext q m).code = H at *
    generalize (Nd.ext q m).code = C at *
    unfold ptr at *
    go_enter Tryz.func19, Tryz.ntmps19
    go_wp2_with fail
    refine HC.out.mono ?_
    rintro e w2 ⟨rfl, hk2⟩
    have HS2 := hide (HSm.out w2 hk2)
    clear hk2
    go_wp2_with fail
    refine HS2.out.mono ?_
    rintro e w3 ⟨rfl, hk3⟩
    go_wp2
    go_ret
    exact ⟨rfl, hk3⟩
  | br c x =>
    have hn' := hn
    obtain ⟨ub, _, _, rfl, _⟩ := hn'
    have HC := hide (ih ub hn)
    have HE : Hid (rootOf (.br c x) = hashOf (Nd.br c x).code) := rfl
    rw [HE.out]
    have hme := meth_co_br
    unfold codePost at HC
    clear hA hO hT hok hb hok2 ih HE hn
    generalize hashOf (Nd.br c x).code = H at *
    generalize (Nd.br c x).code = C at *
    unfold ptr at *
    go_enter Tryz.func19, Tryz.ntmps19
    go_wp2_with fail
    refine HC.out.mono ?_
    rintro e w2 ⟨rfl, hk2⟩
    have HS2 := hide (HSm.out w2 hk2)
    clear hk2
    go_wp2_with fail
    refine HS2.out.mono ?_
    rintro e w3 ⟨rfl, hk3⟩
    go_wp2
    go_ret
    exact ⟨rfl, hk3⟩
set_option maxHeartbeats 1000000 in
set_option maxRecDepth 20000 in
theorem cRoot_any (ok : Nat → Prop) (T : Nat) (st : Value) (n : Nd) (w : World) (hA : TreeAt HkC ok w T st n) (hO : TOk n) (hT : TbZ w) (hok : ∀ k, ok k → 3 ≤ k) :
    Calls Tryz.prog 11 #[ptr T] w fun e w' => e = .returned (.string (rootOf n)) ∧ KeepH ok w w' := by
  have HR := hide (tRoot_any ok T st n w hA hO hT hok)
  clear hA hO hT hok
  generalize rootOf n = H at *
  unfold ptr at *
  go_enter Tryz.func11, Tryz.ntmps11
  go_wp2_with fail
  refine HR.out.mono ?_
  rintro e w2 ⟨rfl, hb2⟩
  go_wp2
  go_ret
  exact ⟨rfl, hb2⟩
theorem TreeAt.keepH {ok : Nat → Prop} {w w' : World} {T : Nat} {st : Value} {n : Nd} (h : TreeAt HkC ok w T st n) (hk : KeepH ok w w') : TreeAt HkC ok w' T st n := by
  have hl := h.lt
  obtain ⟨u, h1, h2⟩ := h.held
  refine ⟨⟨u, hk.other _ _ h1 (fun cs t fr e => by injection e with _ e _; subst e; exact ⟨by decide, by decide⟩), hk.node _ _ _ h2⟩, fun k hk' => ⟨Nat.lt_of_lt_of_le (h.blk k hk').1 hk.size, (h.blk k hk').2⟩⟩
end Go.Proofs.YthdjmldddjljfaaGreatDoor
