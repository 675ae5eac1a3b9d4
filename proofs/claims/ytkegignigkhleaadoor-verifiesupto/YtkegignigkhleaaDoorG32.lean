/-
  OUR OWN: VpP VpM.
-/
import Derived.Test.YtkegignigkhleaaDoorG31
import Derived.Test.YtkegignigkhleaaDoorG22
import Derived.Deep.RegionHeld3
namespace Go.Proofs.YtkegignigkhleaaDoor
open Go.RowKit
attribute [local go_sem ↓] Go.wp_at_zero Go.wp_at_succ

def rdV (U : Nat) : Value := .func (.func 15) #[.pointer (some ⟨U, 0, none⟩)] #[]
theorem GetPost.bad {U : Nat} {A : Option (Option ByteArray × List ByteArray)} {w w' : World} {e : Ending} (hA : A = none) {er : Int} (h1 : er ≠ 0) (h2 : er ≠ 10) (h3 : e = .returned (.tuple #[.string e0, .int .i64 er])) (h4 : w.grownBy w' (some U)) : GetPost U A w e w' := by
  subst hA; exact ⟨h4, er, h1, h2, h3⟩
theorem GetPost.no {U : Nat} {A : Option (Option ByteArray × List ByteArray)} {ts : List ByteArray} {w w' : World} {e : Ending} (hA : A = some (none, ts)) (h3 : e = .returned (.tuple #[.string e0, .int .i64 10])) (h4 : w.grownBy w' (some U)) (h5 : Un w' U ts) : GetPost U A w e w' := by
  subst hA; exact ⟨h4, h3, h5⟩
theorem GetPost.yes {U : Nat} {A : Option (Option ByteArray × List ByteArray)} {v : ByteArray} {ts : List ByteArray} {w w' : World} {e : Ending} (hA : A = some (some v, ts)) (h3 : e = .returned (.tuple #[.string v, .int .i64 0])) (h4 : w.grownBy w' (some U)) (h5 : Un w' U ts) : GetPost U A w e w' := by
  subst hA; exact ⟨h4, h3, h5⟩
set_option maxHeartbeats 8000000 in
set_option maxRecDepth 20000 in
theorem get_hash (U M : Nat) (root : ByteArray) (gp op cap : Nat) (P : List Int) (ts : List ByteArray) (w : World) (hT : Tb w) (hU : 2 ≤ U) (hr : root.size = 32) (hgp : gp ≠ U) (hgl : gp < w.heap.size) (hP : Ints w (some ⟨gp, op, none⟩) P) (hc : P.length ≤ cap) (hPl : P.length ≤ 128) (h16 : ∀ i ∈ P, 0 ≤ i ∧ i < 16) (hun : Un w U ts) (hts : ∀ t ∈ ts, t.size ≤ M) (hM : M ≤ 9223372036854775000) :
    Calls Tryd.prog 14 #[rdV U, .agg #[.nilIface, .string root], .slice (some ⟨gp, op, none⟩) P.length cap] w fun e w' => GetPost U (goV hashOf ts root 0 false false P) w e w' := by
  have hUl := hun.lt
  have HE : Hid (∀ o, w.heap.size < (w.alloc o).heap.size → (w.alloc o).heap[w.heap.size]? = some (.cells #[.nilIface, .string root] 49 (0, 0)) → Calls Tryd.prog 25 #[.pointer (some ⟨w.heap.size, 0, none⟩)] (w.alloc o) fun e w' => e = .returned (.bool false) ∧ w' = w.alloc o) := fun o _ hW => by
    have h := isEmptyX_any w.heap.size 0 .nilIface root (w.alloc o) (.inl rfl) (cell_of_row _ _ 0 _ _ (0, 0) hW) (cell_of_row _ _ 1 _ _ (0, 0) hW)
    have e : emptyB .nilIface root = false := by simp [emptyB, hr]
    rwa [e] at h
  have hB2 : ∀ o1 o2, Below w.heap.size w ((w.alloc o1).alloc o2) := fun o1 o2 => (below_alloc w o1).alloc (by simp) _
  have HS0 : Hid (∀ o1, GS w U gp M (goV hashOf ts root 0 false false P) (.hash root) P 0 false false ts op cap .nilIface root .nilIface ((w.alloc o1).alloc (.cells #[.nilIface, .string root, .nilIface, .int .i64 0] 62))) := fun o1 =>
    ⟨hc, hP.keep (hB2 _ _), by omega, h16, hr, rfl, ⟨rfl, rfl⟩, by
      have h2 := heap_alloc_new (w.alloc o1) (.cells #[.nilIface, .string root, .nilIface, .int .i64 0] 62)
      rw [World.size_alloc] at h2
      exact h2, .none, .inl ⟨rfl, rfl⟩, hun.keep (hB2 _ _), hts, grown_below (hB2 _ _), rfl⟩
  generalize goV hashOf ts root 0 false false P = A at *
  have HRd : Hid (∀ n p d u least ts op cap v g av wr, GS w U gp M A n p d u least ts op cap v g av wr → Calls Tryd.prog 15 #[.pointer (some ⟨U, 0, none⟩), .agg #[v, .string g, av, .int .i64 (d : Int)]] wr fun e w' => OnePost U (w.heap.size + 1) M A p d wr e w') := fun n p d u least ts op cap v g av wr h => by
    have := readU_any U (w.heap.size + 1) M n p d u least ts v g av wr (hT.grown h.grown hU) hU (Array.getElem?_eq_some_iff.1 h.box).1 h.node h.wf h.nn h.abv h.over h.un h.lim hM (by have := h.dp; omega)
    rw [h.ans] at this
    exact this
  have hUT : ¬ w.heap.size + 1 = U := by omega
  clear hP hun hts hB2 h16 hT
  have m1 := meth_tw_leaf
  have m2 := meth_tw_ext
  have m3 := meth_tw_br
  unfold ptr at m1 m2 m3
  unfold rdV
  go_enter Tryd.func14, Tryd.ntmps14
  go_wp2_with fail
  refine (HE.out _ (by simp) (heap_alloc_new w _)).mono ?_
  rintro e w1 ⟨rfl, rfl⟩
  go_wp2_with fail
  go_loopw [2] (fun pv wr => ∃ n p d u least ts op cap v g av, pv = .slice (some ⟨gp, op, none⟩) p.length cap ∧ GS w U gp M A n p d u least ts op cap v g av wr) (fun pv _ => lenV pv)
  case atStart => exact ⟨_, P, 0, _, _, ts, op, cap, _, _, _, rfl, HS0.out _⟩
  case round =>
    obtain ⟨n, p, d, u, least, ts', op', cap', v, g, av, rfl, hs⟩ := hrel
    have HS := hide hs
    have HR1 := hide (HRd.out _ _ _ _ _ _ _ _ _ _ _ _ hs)
    have x0 : wr.cell? ⟨w.heap.size + 1, 0, none⟩ = some v := cell_of_row _ _ 0 _ _ (0, 0) hs.box
    have x1 : wr.cell? ⟨w.heap.size + 1, 1, none⟩ = some (.string g) := cell_of_row _ _ 1 _ _ (0, 0) hs.box
    have x2 : wr.cell? ⟨w.heap.size + 1, 2, none⟩ = some av := cell_of_row _ _ 2 _ _ (0, 0) hs.box
    have x3 : wr.cell? ⟨w.heap.size + 1, 3, none⟩ = some (.int .i64 (d : Int)) := cell_of_row _ _ 3 _ _ (0, 0) hs.box
    clear hs
    go_wp2_with (first
      | (refine wpList_load_row rfl 62 (.tmp 8) rfl (w.heap.size + 1) rfl 62 _ (0, 0) _ HS.out.box Tryd.underlying62 rfl (by kernel_rfl) ?_)
      | fail)
    refine HR1.out.mono ?_
    intro e w2 hop
    obtain ⟨hg2, ⟨er, her1, her2, rfl, hA⟩ | ⟨m, mv, ts2, rfl, hmw, hmn, hmh, hmx, hun2, hlim2, hA2⟩⟩ := hop
    · have e1 : (er != 0) = true := by simpa using her1
      go_wp2
      go_ret2
      exact GetPost.bad hA her1 her2 rfl (grown_both HS.out.grown hg2)
    · have hgr2 := grown_both HS.out.grown hg2
      have hbox2 : w2.heap[w.heap.size + 1]? = some (.cells #[v, .string g, av, .int .i64 (d : Int)] 62 (0, 0)) := (hg2.block _ (Array.getElem?_eq_some_iff.1 HS.out.box).1 (fun e => by injection e with e; omega)).trans HS.out.box
      have hin2 := ints_grown HS.out.ints hg2 hgp
      have hTl : w.heap.size + 1 < w2.heap.size := (Array.getElem?_eq_some_iff.1 hbox2).1
      have HQ := hide (And.intro hgr2 (And.intro hbox2 (And.intro hin2 (And.intro hun2 (And.intro hlim2 hA2)))))
      have HMX := hide hmx
      have HMW := hide hmw
      -- behind toward
      have hbx : ∀ W o, Below w2.heap.size w2 W → (W.alloc o).heap[w.heap.size + 1]? = some (.cells #[v, .string g, av, .int .i64 (d : Int)] 62 (0, 0)) := fun W o hW => (Below.heap_alloc _ _ _ (Nat.lt_of_lt_of_le hTl hW.size)).trans ((hW.block _ hTl).trans hbox2)
      have HBX := hide hbx
      clear hbx hg2 hgr2 hbox2 hin2 hun2 hlim2 hA2 hTl
      cases m with
      | nil => cases hmn
      | hash h0 => cases hmh
      | leaf q x =>
        obtain ⟨-, b, ao, ca, rfl, hob, hblk, hpth⟩ := hmx
        have hlt := hmw.2
        have HTw := hide (leafToward_any b ao (some ⟨gp, op', none⟩) ca cap' q p x w2 hblk hpth.ints HQ.out.2.2.1 (by omega))
        have hx := isEmptyV hmw.1
        have HA : Hid (A = if q = p then some (some x, ts2) else some (none, ts2)) := by show _ = _; rw [HQ.out.2.2.2.2.2, step_leaf]
        clear hob hblk hpth hmw
        unfold ptr at *
        by_cases hqp : q = p
        · rw [decide_eq_true hqp] at HTw
          rw [if_pos hqp] at HA
          clear hqp
          go_wp2_with fail
          refine HTw.out.mono ?_
          rintro e w3 ⟨rfl, hb3⟩
          have HB3 := hide hb3
          clear hb3
          go_wp2
          go_ret2
          exact GetPost.yes HA.out rfl (grown_then HQ.out.1 (HB3.out.alloc HB3.out.size _)) (HQ.out.2.2.2.1.keep (HB3.out.alloc HB3.out.size _))
        · rw [decide_eq_false hqp] at HTw
          rw [if_neg hqp] at HA
          clear hqp
          go_wp2_with fail
          refine HTw.out.mono ?_
          rintro e w3 ⟨rfl, hb3⟩
          have HB3 := hide hb3
          clear hb3
          go_wp2
          go_ret2
          exact GetPost.no HA.out rfl (grown_then HQ.out.1 (HB3.out.alloc HB3.out.size _)) (HQ.out.2.2.2.1.keep (HB3.out.alloc HB3.out.size _))
      | ext q m' =>
        obtain ⟨-, b, ao, ca, u', g', rfl, hob, hblk, hpth, hsub⟩ := hmx
        obtain ⟨hw1, hw2, hw3, hw4⟩ := hmw
        have hnd := hsub.isNd
        have HTw := hide (extToward_any b ao (some ⟨gp, op', none⟩) ca cap' q p u' g' w2 hnd hblk hpth.ints HQ.out.2.2.1 (by omega))
        have HSub := hide hsub
        clear hob hblk hpth hsub
        cases hpre : q.isPrefixOf p with
        | false =>
          rw [hpre] at HTw
          have HA : Hid (A = some (none, ts2)) := by show _ = _; rw [HQ.out.2.2.2.2.2, step_off hpre]
          clear hpre
          rcases hnd with rfl | ⟨tt, ub, rfl⟩
          · unfold ptr at *
            go_wp2_with fail
            refine HTw.out.mono ?_
            rintro e w3 ⟨rfl, hb3⟩
            have HB3 := hide hb3
            clear hb3
            go_wp2
            go_ret2
            exact GetPost.no HA.out rfl (grown_then HQ.out.1 (HB3.out.alloc HB3.out.size _)) (HQ.out.2.2.2.1.keep (HB3.out.alloc HB3.out.size _))
          · unfold ptr at *
            go_wp2_with fail
            refine HTw.out.mono ?_
            rintro e w3 ⟨rfl, hb3⟩
            have HB3 := hide hb3
            clear hb3
            go_wp2
            go_ret2
            exact GetPost.no HA.out rfl (grown_then HQ.out.1 (HB3.out.alloc HB3.out.size _)) (HQ.out.2.2.2.1.keep (HB3.out.alloc HB3.out.size _))
        | true =>
          rw [hpre] at HTw
          have hA3 : A = stepR m' (p.drop q.length) (d + q.length) true true ts2 := by rw [HQ.out.2.2.2.2.2, step_ext hpre]
          have hql : q.length ≤ p.length := (List.isPrefixOf_iff_prefix.1 hpre).length_le
          have hq0 : 0 < q.length := List.length_pos_iff.2 hw3
          have hpc := HS.out.pc
          have hdp := HS.out.dp
          have HNx : Hid (∀ W (o : Obj) (op2 cap2 : Nat), Below w2.heap.size w2 W → (p.drop q.length = [] ∨ op2 = op' + q.length) → p.length - q.length ≤ cap2 → GS w U gp M A m' (p.drop q.length) (d + q.length) true true ts2 op2 cap2 u' g' (.iface 110 (ptr b)) (((((W.alloc o).setCell ⟨w.heap.size + 1, 0, none⟩ u').setCell ⟨w.heap.size + 1, 1, none⟩ (.string g')).setCell ⟨w.heap.size + 1, 2, none⟩ (.iface 110 (ptr b))).setCell ⟨w.heap.size + 1, 3, none⟩ (.int .i64 ((d + q.length : Nat) : Int)))) := fun W o op2 cap2 hW ho hc2 => by
            have hWo : Below w2.heap.size w2 (W.alloc o) := hW.alloc hW.size o
            refine gs_next hUl hgl (HBX.out W o hW) (by rw [List.length_drop]; exact hc2) ?_ (by rw [List.length_drop]; omega) (fun i hi => HS.out.nib i (List.mem_of_mem_drop hi)) hw1 hw2 (HSub.out.keep hWo) (.ext b) ⟨_, b, rfl⟩ (HQ.out.2.2.2.1.keep hWo) HQ.out.2.2.2.2.1 (grown_then HQ.out.1 hWo) hA3
            rcases ho with ho | rfl
            · rw [ho]; exact .inl rfl
            · exact (ints_drop HQ.out.2.2.1 q.length).keep hWo
          have HLen : Hid ((p.drop q.length).length = p.length - q.length) := by show _ = _; rw [List.length_drop]
          have j1 : (q.length : Int) ≤ (p.length : Int) := by omega
          have j2 : (p.length : Int) ≤ (cap' : Int) := by omega
          have j3 : (0 : Int) ≤ (q.length : Int) := by omega
          have j4 : IntKind.i64.wrap ((d : Int) + (q.length : Int)) = (d : Int) + (q.length : Int) := by rw [IntKind.wrap_i64]; omega
          clear hpre hA3 hpc hw1 hw2 hw3
          have hTl : w.heap.size + 1 < w2.heap.size := (Array.getElem?_eq_some_iff.1 HQ.out.2.1).1
          have HTl := hide hTl
          clear hTl
          clear m1 HR1 x0 x1 x2 x3 hUT
          rcases hnd with rfl | ⟨tt, ub, rfl⟩
          · unfold ptr at *
            go_wp2_with fail
            refine HTw.out.mono ?_
            rintro e w3 ⟨rfl, hb3⟩
            have y := HBX.out w3 (.cells #[.slice ao q.length ca, .string e0, .nilIface, .string g'] 65) hb3
            have y0 := cell_of_row _ _ 0 _ _ (0, 0) y
            have y1 := cell_of_row _ _ 1 _ _ (0, 0) y
            have y2 := cell_of_row _ _ 2 _ _ (0, 0) y
            have y3 := cell_of_row _ _ 3 _ _ (0, 0) y
            have f0 := frozen_of_row _ (w.heap.size + 1) 0 _ _ y
            have f1 := frozen_of_row _ (w.heap.size + 1) 1 _ _ y
            have f2 := frozen_of_row _ (w.heap.size + 1) 2 _ _ y
            have f3 := frozen_of_row _ (w.heap.size + 1) 3 _ _ y
            have hne : ¬ w3.heap.size = w.heap.size + 1 := by have := HTl.out; have := hb3.size; omega
            have HB3 := hide hb3
            clear hb3 y HTw m2 m3
            simp only [List.getElem?_toArray, List.getElem?_cons_zero, List.getElem?_cons_succ] at y0 y1 y2 y3
            go_wp2_with fail
            by_cases hcq : cap' = q.length
            · rw [if_pos hcq]
              exact ⟨⟨m', p.drop q.length, d + q.length, true, true, ts2, op', cap' - q.length, .nilIface, g', _, by rw [HLen.out], by have h := HNx.out w3 (.cells #[.slice ao q.length ca, .string e0, .nilIface, .string g'] 65) op' (cap' - q.length) HB3.out (.inl (by rw [List.drop_eq_nil_iff]; omega)) (by omega); rw [Int.natCast_add] at h; exact h⟩, by simp only [lenV]; omega⟩
            · rw [if_neg hcq]
              exact ⟨⟨m', p.drop q.length, d + q.length, true, true, ts2, op' + q.length, cap' - q.length, .nilIface, g', _, by rw [HLen.out], by have h := HNx.out w3 (.cells #[.slice ao q.length ca, .string e0, .nilIface, .string g'] 65) (op' + q.length) (cap' - q.length) HB3.out (.inr rfl) (by omega); rw [Int.natCast_add] at h; exact h⟩, by simp only [lenV]; omega⟩
          · unfold ptr at *
            go_wp2_with fail
            refine HTw.out.mono ?_
            rintro e w3 ⟨rfl, hb3⟩
            have y := HBX.out w3 (.cells #[.slice ao q.length ca, .string e0, .iface tt (.pointer (some ⟨ub, 0, none⟩)), .string g'] 65) hb3
            have y0 := cell_of_row _ _ 0 _ _ (0, 0) y
            have y1 := cell_of_row _ _ 1 _ _ (0, 0) y
            have y2 := cell_of_row _ _ 2 _ _ (0, 0) y
            have y3 := cell_of_row _ _ 3 _ _ (0, 0) y
            have f0 := frozen_of_row _ (w.heap.size + 1) 0 _ _ y
            have f1 := frozen_of_row _ (w.heap.size + 1) 1 _ _ y
            have f2 := frozen_of_row _ (w.heap.size + 1) 2 _ _ y
            have f3 := frozen_of_row _ (w.heap.size + 1) 3 _ _ y
            have hne : ¬ w3.heap.size = w.heap.size + 1 := by have := HTl.out; have := hb3.size; omega
            have HB3 := hide hb3
            clear hb3 y HTw m2 m3
            simp only [List.getElem?_toArray, List.getElem?_cons_zero, List.getElem?_cons_succ] at y0 y1 y2 y3
            go_wp2_with fail
            by_cases hcq : cap' = q.length
            · rw [if_pos hcq]
              exact ⟨⟨m', p.drop q.length, d + q.length, true, true, ts2, op', cap' - q.length, (.iface tt (.pointer (some ⟨ub, 0, none⟩))), g', _, by rw [HLen.out], by have h := HNx.out w3 (.cells #[.slice ao q.length ca, .string e0, .iface tt (.pointer (some ⟨ub, 0, none⟩)), .string g'] 65) op' (cap' - q.length) HB3.out (.inl (by rw [List.drop_eq_nil_iff]; omega)) (by omega); rw [Int.natCast_add] at h; exact h⟩, by simp only [lenV]; omega⟩
            · rw [if_neg hcq]
              exact ⟨⟨m', p.drop q.length, d + q.length, true, true, ts2, op' + q.length, cap' - q.length, (.iface tt (.pointer (some ⟨ub, 0, none⟩))), g', _, by rw [HLen.out], by have h := HNx.out w3 (.cells #[.slice ao q.length ca, .string e0, .iface tt (.pointer (some ⟨ub, 0, none⟩)), .string g'] 65) (op' + q.length) (cap' - q.length) HB3.out (.inr rfl) (by omega); rw [Int.natCast_add] at h; exact h⟩, by simp only [lenV]; omega⟩
      | br c x =>
        obtain ⟨-, b, us, hs, rfl, hob, hblk, hkid⟩ := hmx
        obtain ⟨hw1, hw2, hw3⟩ := hmw
        cases p with
        | nil =>
          have HTw := hide (brToward_nil b (some ⟨gp, op', none⟩) cap' us hs x w2 hblk)
          have HA : Hid (A = if x.size = 0 then some (none, ts2) else some (some x, ts2)) := by show _ = _; rw [HQ.out.2.2.2.2.2, step_val]
          clear hob hblk hkid hw1 hw2 hw3
          unfold ptr at *
          by_cases hx0 : x.size = 0
          · rw [if_pos hx0] at HA
            rw [decide_eq_false (fun h => h hx0)] at HTw
            clear hx0
            go_wp2_with fail
            refine HTw.out.mono ?_
            rintro e w3 ⟨rfl, hb3⟩
            have HB3 := hide hb3
            clear hb3
            go_wp2
            go_ret2
            exact GetPost.no HA.out rfl (grown_then HQ.out.1 (HB3.out.alloc HB3.out.size _)) (HQ.out.2.2.2.1.keep (HB3.out.alloc HB3.out.size _))
          · rw [if_neg hx0] at HA
            rw [decide_eq_true hx0] at HTw
            have hx := isEmptyV hx0
            clear hx0
            go_wp2_with fail
            refine HTw.out.mono ?_
            rintro e w3 ⟨rfl, hb3⟩
            have HB3 := hide hb3
            clear hb3
            go_wp2
            go_ret2
            exact GetPost.yes HA.out rfl (grown_then HQ.out.1 (HB3.out.alloc HB3.out.size _)) (HQ.out.2.2.2.1.keep (HB3.out.alloc HB3.out.size _))
        | cons i p' =>
          have hnb := HS.out.nib i (List.mem_cons_self ..)
          have hin : ((i.toNat : Nat) : Int) = i := Int.toNat_of_nonneg hnb.1
          have hi16 : i.toNat < 16 := by omega
          have hcl : w2.cell? ⟨gp, op', none⟩ = some (.int .i64 ((i.toNat : Nat) : Int)) := by
            obtain ⟨b', o', e, hc'⟩ := HQ.out.2.2.1.get 0 (by simp)
            obtain ⟨rfl, rfl⟩ : gp = b' ∧ op' = o' := by simpa using e
            rw [hin]
            simpa using hc'
          have hpc := HS.out.pc
          have hdp := HS.out.dp
          simp only [List.length_cons] at hpc hdp
          have hsub := hkid i.toNat hi16
          have hnd := hsub.isNd
          have HTw := hide (brToward_cons b i.toNat gp op' cap' p'.length us hs x w2 hi16 hnd hblk hcl hpc)
          have HSub := hide hsub
          have hA3 : A = stepR (c i.toNat) p' (d + 1) false true ts2 := by rw [HQ.out.2.2.2.2.2, step_br]
          have hlv := hsub.live (hw1 i.toNat)
          have hwk := hw1 i.toNat
          have hebx : (c i.toNat).isNil = false → (!emptyB (us i.toNat) (hs i.toNat)) = true := fun hcn => by
            rcases hlv with ⟨h1, _⟩ | ⟨_, h1⟩
            · rw [hcn] at h1; cases h1
            · rcases h1 with ⟨t1, b1, h2⟩ | ⟨h2, h3⟩
              · rw [h2]; rfl
              · rw [h2]
                have : ¬ (hs i.toNat).size = 0 := fun e => h3 (e0_iff.1 e)
                simp [emptyB, this]
          clear hob hblk hkid hw1 hw2 hw3 hcl hsub hin hlv
          generalize us i.toNat = u' at *
          generalize hs i.toNat = g' at *
          have hTl : w.heap.size + 1 < w2.heap.size := (Array.getElem?_eq_some_iff.1 HQ.out.2.1).1
          have HTl := hide hTl
          clear hTl
          cases hcn : (c i.toNat).isNil with
          | true =>
            have hc0 : c i.toNat = .nil := by
              cases h : c i.toNat with
              | nil => rfl
              | hash _ => rw [h] at hcn; cases hcn
              | leaf _ _ => rw [h] at hcn; cases hcn
              | ext _ _ => rw [h] at hcn; cases hcn
              | br _ _ => rw [h] at hcn; cases hcn
            have hs0 := HSub.out
            rw [hc0] at hs0
            obtain ⟨rfl, rfl⟩ := hs0
            have HA : Hid (A = some (none, ts2)) := by show _ = _; rw [hA3, hc0]; rfl
            have heb : (!emptyB .nilIface e0) = false := rfl
            rw [heb] at HTw
            clear hA3 hebx hcn hc0 hnd hpc
            unfold ptr at *
            go_wp2_with fail
            refine HTw.out.mono ?_
            rintro e w3 ⟨rfl, hb3⟩
            have HB3 := hide hb3
            clear hb3
            go_wp2
            go_ret2
            exact GetPost.no HA.out rfl (grown_then HQ.out.1 (HB3.out.alloc HB3.out.size _)) (HQ.out.2.2.2.1.keep (HB3.out.alloc HB3.out.size _))
          | false =>
            have heb := hebx hcn
            rw [heb] at HTw
            have HNx : Hid (∀ W (o : Obj) (op2 cap2 : Nat), Below w2.heap.size w2 W → (p' = [] ∨ op2 = op' + 1) → p'.length ≤ cap2 → GS w U gp M A (c i.toNat) p' (d + 1) false true ts2 op2 cap2 u' g' (.iface 112 (ptr b)) (((((W.alloc o).setCell ⟨w.heap.size + 1, 0, none⟩ u').setCell ⟨w.heap.size + 1, 1, none⟩ (.string g')).setCell ⟨w.heap.size + 1, 2, none⟩ (.iface 112 (ptr b))).setCell ⟨w.heap.size + 1, 3, none⟩ (.int .i64 ((d + 1 : Nat) : Int)))) := fun W o op2 cap2 hW ho hc2 => by
              have hWo : Below w2.heap.size w2 (W.alloc o) := hW.alloc hW.size o
              refine gs_next hUl hgl (HBX.out W o hW) hc2 ?_ (by omega) (fun j hj => HS.out.nib j (List.mem_cons_of_mem _ hj)) hwk hcn (HSub.out.keep hWo) (.br b) ⟨_, b, rfl⟩ (HQ.out.2.2.2.1.keep hWo) HQ.out.2.2.2.2.1 (grown_then HQ.out.1 hWo) hA3
              rcases ho with rfl | rfl
              · exact .inl rfl
              · have := (ints_drop HQ.out.2.2.1 1).keep hWo
                simpa using this
            have j1 : (1 : Int) ≤ (p'.length : Int) + 1 := by omega
            have j2 : (p'.length : Int) + 1 ≤ (cap' : Int) := by omega
            have j4 : IntKind.i64.wrap ((d : Int) + 1) = (d : Int) + 1 := by rw [IntKind.wrap_i64]; omega
            clear hebx heb hA3 hwk hcn
            clear m1 HR1 x0 x1 x2 x3 hUT
            rcases hnd with rfl | ⟨tt, ub, rfl⟩
            · unfold ptr at *
              go_wp2_with fail
              refine HTw.out.mono ?_
              rintro e w3 ⟨rfl, hb3⟩
              have y := HBX.out w3 (.cells #[.slice (some ⟨gp, op', none⟩) 1 cap', .string e0, .nilIface, .string g'] 65) hb3
              have y0 := cell_of_row _ _ 0 _ _ (0, 0) y
              have y1 := cell_of_row _ _ 1 _ _ (0, 0) y
              have y2 := cell_of_row _ _ 2 _ _ (0, 0) y
              have y3 := cell_of_row _ _ 3 _ _ (0, 0) y
              have f0 := frozen_of_row _ (w.heap.size + 1) 0 _ _ y
              have f1 := frozen_of_row _ (w.heap.size + 1) 1 _ _ y
              have f2 := frozen_of_row _ (w.heap.size + 1) 2 _ _ y
              have f3 := frozen_of_row _ (w.heap.size + 1) 3 _ _ y
              have hne : ¬ w3.heap.size = w.heap.size + 1 := by have := HTl.out; have := hb3.size; omega
              have HB3 := hide hb3
              clear hb3 y HTw m2 m3
              simp only [List.getElem?_toArray, List.getElem?_cons_zero, List.getElem?_cons_succ] at y0 y1 y2 y3
              go_wp2_with fail
              by_cases hcq : cap' = 1
              · rw [if_pos hcq]
                exact ⟨⟨c i.toNat, p', d + 1, false, true, ts2, op', cap' - 1, .nilIface, g', _, by simp, by have h := HNx.out w3 (.cells #[.slice (some ⟨gp, op', none⟩) 1 cap', .string e0, .nilIface, .string g'] 65) op' (cap' - 1) HB3.out (.inl (List.length_eq_zero_iff.1 (by omega))) (by omega); rw [Int.natCast_add] at h; exact h⟩, by simp [lenV]⟩
              · rw [if_neg hcq]
                exact ⟨⟨c i.toNat, p', d + 1, false, true, ts2, op' + 1, cap' - 1, .nilIface, g', _, by simp, by have h := HNx.out w3 (.cells #[.slice (some ⟨gp, op', none⟩) 1 cap', .string e0, .nilIface, .string g'] 65) (op' + 1) (cap' - 1) HB3.out (.inr rfl) (by omega); rw [Int.natCast_add] at h; exact h⟩, by simp [lenV]⟩
            · unfold ptr at *
              go_wp2_with fail
              refine HTw.out.mono ?_
              rintro e w3 ⟨rfl, hb3⟩
              have y := HBX.out w3 (.cells #[.slice (some ⟨gp, op', none⟩) 1 cap', .string e0, .iface tt (.pointer (some ⟨ub, 0, none⟩)), .string g'] 65) hb3
              have y0 := cell_of_row _ _ 0 _ _ (0, 0) y
              have y1 := cell_of_row _ _ 1 _ _ (0, 0) y
              have y2 := cell_of_row _ _ 2 _ _ (0, 0) y
              have y3 := cell_of_row _ _ 3 _ _ (0, 0) y
              have f0 := frozen_of_row _ (w.heap.size + 1) 0 _ _ y
              have f1 := frozen_of_row _ (w.heap.size + 1) 1 _ _ y
              have f2 := frozen_of_row _ (w.heap.size + 1) 2 _ _ y
              have f3 := frozen_of_row _ (w.heap.size + 1) 3 _ _ y
              have hne : ¬ w3.heap.size = w.heap.size + 1 := by have := HTl.out; have := hb3.size; omega
              have HB3 := hide hb3
              clear hb3 y HTw m2 m3
              simp only [List.getElem?_toArray, List.getElem?_cons_zero, List.getElem?_cons_succ] at y0 y1 y2 y3
              go_wp2_with fail
              by_cases hcq : cap' = 1
              · rw [if_pos hcq]
                exact ⟨⟨c i.toNat, p', d + 1, false, true, ts2, op', cap' - 1, (.iface tt (.pointer (some ⟨ub, 0, none⟩))), g', _, by simp, by have h := HNx.out w3 (.cells #[.slice (some ⟨gp, op', none⟩) 1 cap', .string e0, .iface tt (.pointer (some ⟨ub, 0, none⟩)), .string g'] 65) op' (cap' - 1) HB3.out (.inl (List.length_eq_zero_iff.1 (by omega))) (by omega); rw [Int.natCast_add] at h; exact h⟩, by simp [lenV]⟩
              · rw [if_neg hcq]
                exact ⟨⟨c i.toNat, p', d + 1, false, true, ts2, op' + 1, cap' - 1, (.iface tt (.pointer (some ⟨ub, 0, none⟩))), g', _, by simp, by have h := HNx.out w3 (.cells #[.slice (some ⟨gp, op', none⟩) 1 cap', .string e0, .iface tt (.pointer (some ⟨ub, 0, none⟩)), .string g'] 65) (op' + 1) (cap' - 1) HB3.out (.inr rfl) (by omega); rw [Int.natCast_add] at h; exact h⟩, by simp [lenV]⟩
end Go.Proofs.YtkegignigkhleaaDoor
namespace Go.Proofs.YtkegignigkhleaaDoor
open Go.RowKit
attribute [local go_sem ↓] Go.wp_at_zero Go.wp_at_succ

/-- texts in memory -/
def Txts (w : World) (ao : Option Addr) (ts : List ByteArray) : Prop := ∀ i, i < ts.length → ∃ g o, ao = some ⟨g, o, none⟩ ∧ w.cell? ⟨g, o + i, none⟩ = some (.string (ts.getD i eB))
theorem Txts.keep {w w' : World} {ao : Option Addr} {ts : List ByteArray} (h : Txts w ao ts) (hb : Below w.heap.size w w') : Txts w' ao ts := fun i hi => by
  obtain ⟨g, o, e, hc⟩ := h i hi
  exact ⟨g, o, e, (hb.cell (p := ⟨g, o + i, none⟩) (World.block_lt_of_cell? w _ hc)).trans hc⟩
theorem Un.start {w : World} {ao : Option Addr} {ts : List ByteArray} {cap : Nat} (h : Txts w ao ts) (hc : ts.length ≤ cap) : Un (w.alloc (.cells #[.slice ao ts.length cap] 51)) w.heap.size ts :=
  ⟨ao, cap, heap_alloc_new w _, hc, fun i hi => by
    obtain ⟨g, o, e, hc'⟩ := h i hi
    have hl := World.block_lt_of_cell? w _ hc'
    exact ⟨g, o, e, hl, ((below_alloc w _).cell (p := ⟨g, o + i, none⟩) hl).trans hc'⟩⟩
set_option maxHeartbeats 1000000 in
set_option maxRecDepth 20000 in
theorem get_none (fv pv : Value) (w : World) :
    Calls Tryd.prog 14 #[fv, .agg #[.nilIface, .string ⟨#[]⟩], pv] w fun e w' => e = .returned (.tuple #[.string ⟨#[]⟩, .int .i64 10]) ∧ Below w.heap.size w w' := by
  have HE : Hid (∀ o, (w.alloc o).heap[w.heap.size]? = some (.cells #[.nilIface, .string e0] 49 (0, 0)) → Calls Tryd.prog 25 #[.pointer (some ⟨w.heap.size, 0, none⟩)] (w.alloc o) fun e w' => e = .returned (.bool true) ∧ w' = w.alloc o) := fun o hW => isEmpty_yes w.heap.size 0 (w.alloc o) (cell_of_row _ _ 0 _ _ (0, 0) hW) (cell_of_row _ _ 1 _ _ (0, 0) hW)
  go_enter Tryd.func14, Tryd.ntmps14
  go_wp2_with fail
  refine (HE.out _ (heap_alloc_new w _)).mono ?_
  rintro e w1 ⟨rfl, rfl⟩
  go_wp2
  go_ret2
  exact ⟨rfl, below_alloc _ _⟩
def ansV (r : ByteArray × Bool × Int) : Ending := .returned (.tuple #[.string r.1, .bool r.2.1, .int .i64 r.2.2])
set_option maxHeartbeats 2000000 in
set_option maxRecDepth 20000 in
theorem tVerify_key (root key : ByteArray) (pv : Value) (w : World) (hk : 64 < key.size) :
    Calls Tryd.prog 8 #[.string root, .string key, pv] w fun e w' => e = ansV (eB, false, 8) ∧ Below w.heap.size w w' := by
  have i1 : (64 : Int) < (key.size : Int) := by omega
  go_enter Tryd.func8, Tryd.ntmps8
  go_wp2
  refine bodyPost_ret (v := .tuple #[.string ⟨#[]⟩, .bool false, .int .i64 8]) (by simp [results, Tryd.results8, go_sem]) rfl ⟨rfl, Below.refl _ _⟩
set_option maxHeartbeats 2000000 in
set_option maxRecDepth 20000 in
theorem tVerify_root (root key : ByteArray) (pv : Value) (w : World) (hk : key.size ≤ 64) (hr : root.size ≠ 32) :
    Calls Tryd.prog 8 #[.string root, .string key, pv] w fun e w' => e = ansV (eB, false, 13) ∧ Below w.heap.size w w' := by
  have i1 : (key.size : Int) ≤ 64 := by omega
  have i2 : ((root.size : Int) != 32) = true := by simp; omega
  go_enter Tryd.func8, Tryd.ntmps8
  go_wp2
  refine bodyPost_ret (v := .tuple #[.string ⟨#[]⟩, .bool false, .int .i64 13]) (by simp [results, Tryd.results8, go_sem]) rfl ⟨rfl, Below.refl _ _⟩
theorem own_pt {w : World} {base e k n c g : Nat} {xs : List Value} (h : w.ownsRow base e k (.slice (some ⟨g, 0, none⟩) n c) n xs) : base ≤ g ∧ g < w.heap.size := by
  rcases h.2 with ⟨h1, _⟩ | ⟨g', c', cur, h1, h2, h3, _⟩
  · cases h1
  · obtain ⟨rfl, _⟩ : g = g' ∧ c = c' := by simpa using h1
    exact ⟨h2, (Array.getElem?_eq_some_iff.1 h3).1⟩
set_option maxHeartbeats 4000000 in
set_option maxRecDepth 20000 in
theorem tVerify_hash (root key : ByteArray) (ao : Option Addr) (cap M : Nat) (ts : List ByteArray) (w : World) (hT : Tb w) (hk : key.size ≤ 64) (hr : root.size = 32) (hne : root ≠ root0) (htx : Txts w ao ts) (hc : ts.length ≤ cap) (hts : ∀ t ∈ ts, t.size ≤ M) (hM : M ≤ 9223372036854775000) :
    Calls Tryd.prog 8 #[.string root, .string key, .slice ao ts.length cap] w fun e w' => e = ansV (match goV hashOf ts root 0 false false (nibs key.data.toList) with | some (o, []) => (o.getD eB, o.isSome, 0) | _ => (eB, false, 13)) ∧ Below w.heap.size w w' := by
  have HR := hide (fun o => rootOfNothing_any (w.alloc o) (hT.keep (below_alloc _ _)))
  have i1 : (key.size : Int) ≤ 64 := by omega
  have i2 : ((root.size : Int) != 32) = false := by simp; omega
  have i3 : (root.toList == root0.toList) = false := neq_str hne
  have HT := hide hT
  have HX := hide htx
  have HOf := hide (fun W => of_any key W (by omega))
  have hkl : key.data.toList.length = key.size := by rw [Array.length_toList]; rfl
  have hnl : (nibs key.data.toList).length = 2 * key.size := by rw [nibs_length, hkl]
  have HG : Hid (∀ (U gp : Nat) (W : World), Tb W → 2 ≤ U → gp ≠ U → gp < W.heap.size → Ints W (some ⟨gp, 0, none⟩) (nibs key.data.toList) → Un W U ts → Calls Tryd.prog 14 #[.func (.func 15) #[.pointer (some ⟨U, 0, none⟩)] #[], .agg #[.nilIface, .string root], .slice (some ⟨gp, 0, none⟩) (2 * key.size) (2 * key.size)] W fun e w' => GetPost U (goV hashOf ts root 0 false false (nibs key.data.toList)) W e w') := fun U gp W h1 h2 h3 h4 h5 h6 => by
    have := get_hash U M root gp 0 (2 * key.size) (nibs key.data.toList) ts W h1 h2 hr h3 h4 h5 (by omega) (by omega) (fun i hi => by
      have := List.all_eq_true.1 (nibs_nib key.data.toList) i hi
      simp [nib] at this; omega) h6 hts hM
    rw [hnl] at this
    exact this
  have HC := hide hc
  clear hT htx hkl hnl hc hts
  have HVB : Hid (∀ v r, goV hashOf ts root 0 false false (nibs key.data.toList) = some (some v, r) → v.size ≤ 400) := fun v r h => goV_VB hashOf ts root 0 false false _ v r h
  generalize goV hashOf ts root 0 false false (nibs key.data.toList) = A at *
  cases A with
  | none =>
    go_enter Tryd.func8, Tryd.ntmps8
    go_wp2_with fail
    refine (HR.out _).mono ?_
    rintro e w1 ⟨rfl, hb1⟩
    have hbw1 : Below w.heap.size w w1 := (below_alloc w _).trans (hb1.mono (by simp))
    have htop : w1.heap[w.heap.size]? = some (.cells #[.nilIface, .string root] 49 (0, 0)) := (hb1.block w.heap.size (by simp)).trans (heap_alloc_new w _)
    have HB1 := hide (And.intro hbw1 htop)
    have hlt := (Array.getElem?_eq_some_iff.1 htop).1
    have htopa : ∀ o, (w1.alloc o).heap[w.heap.size]? = some (.cells #[.nilIface, .string root] 49 (0, 0)) := fun o => (Below.heap_alloc _ _ _ hlt).trans htop
    have z0 : ∀ o, (w1.alloc o).cell? ⟨w.heap.size, 0, none⟩ = some .nilIface := fun o => cell_of_row _ _ 0 _ _ (0, 0) (htopa o)
    have z1 : ∀ o, (w1.alloc o).cell? ⟨w.heap.size, 1, none⟩ = some (.string root) := fun o => cell_of_row _ _ 1 _ _ (0, 0) (htopa o)
    have HU0 : Hid (Un (w1.alloc (.cells #[.slice ao ts.length cap] 51)).drew w1.heap.size ts) := (Un.start (HX.out.keep hbw1) HC.out).keep (Below.refl _ _).drew
    have HT1 : Hid (Tb (w1.alloc (.cells #[.slice ao ts.length cap] 51)).drew) := (HT.out.keep hbw1).keep (below_alloc _ _).drew
    have HU2 : Hid (2 ≤ w1.heap.size) := (HT.out.keep hbw1).two
    clear hb1 hbw1 htop hlt htopa
    have HAft : Hid (∀ w2 w3 : World, Below (w1.alloc (.cells #[.slice ao ts.length cap] 51)).drew.heap.size (w1.alloc (.cells #[.slice ao ts.length cap] 51)).drew w2 → w2.grownBy w3 (some w1.heap.size) → w3.cell? ⟨w.heap.size, 0, none⟩ = some .nilIface ∧ w3.cell? ⟨w.heap.size, 1, none⟩ = some (.string root) ∧ Hid (Below w.heap.size w w3)) := fun w2 w3 h2 h3 => by
      have hlt := (Array.getElem?_eq_some_iff.1 HB1.out.2).1
      have hs1 := HB1.out.1.size
      have h2s := h2.size
      simp only [World.size_alloc, World.size_drew] at h2s
      have hall : ∀ k, k < w1.heap.size → w3.heap[k]? = w1.heap[k]? := fun k hk => by
        rw [h3.block k (by omega) (fun e => by injection e with e; omega), h2.block k (by simp only [World.size_alloc, World.size_drew]; omega)]
        exact Below.heap_alloc _ _ _ hk
      have hb : w3.heap[w.heap.size]? = some (.cells #[.nilIface, .string root] 49 (0, 0)) := (hall _ hlt).trans HB1.out.2
      refine ⟨cell_of_row _ _ 0 _ _ (0, 0) hb, cell_of_row _ _ 1 _ _ (0, 0) hb, ⟨h3.os.trans (h2.os.trans HB1.out.1.os), h3.tape.trans (h2.tape.trans HB1.out.1.tape), h3.output.trans (h2.output.trans HB1.out.1.output), by have := h3.size; omega, fun k hk => (hall k (by omega)).trans (HB1.out.1.block k hk)⟩⟩
    go_wp2_with fail
    go_region_held3 (fun W => W.cell? ⟨w.heap.size, 0, none⟩ = some .nilIface ∧ W.cell? ⟨w.heap.size, 1, none⟩ = some (.string root)) (first | go_keep | (simp [*])) ((first
      | (go_at_call 16; refine (HOf.out _).mono ?_; rintro e w2 ⟨gp, rfl, hown, hb2⟩; (have HO2 := hide (And.intro hown hb2)); (have d0 := ((hb2.cell (p := ⟨w.heap.size, 0, none⟩) (by have := (Array.getElem?_eq_some_iff.1 HB1.out.2).1; show _ < (World.alloc _ _).heap.size; simp only [World.size_alloc]; omega)).trans (z0 _))); (have d1 := ((hb2.cell (p := ⟨w.heap.size, 1, none⟩) (by have := (Array.getElem?_eq_some_iff.1 HB1.out.2).1; show _ < (World.alloc _ _).heap.size; simp only [World.size_alloc]; omega)).trans (z1 _))); clear hown hb2)
      | (go_at_call 14; have hpt := own_pt HO2.out.1; have hgs : w1.heap.size + 1 ≤ gp := (by have := hpt.1; simp only [World.size_alloc, World.size_drew] at this; exact this); refine (HG.out w1.heap.size gp w2 (HT1.out.keep HO2.out.2) HU2.out (by omega) hpt.2 (Ints.own HO2.out.1) (HU0.out.keep HO2.out.2)).mono ?_; intro e w3 hgp; obtain ⟨hgr3, er, her1, her2, rfl⟩ := hgp; have e1 : (er != 0) = true := (by simpa using her1); have e2 : (er != 10) = true := (by simpa using her2); have HX3 := hide hgr3; obtain ⟨c0, c1, HBW3⟩ := HAft.out w2 w3 HO2.out.2 HX3.out; clear hpt hgs hgr3)))
    all_goals go_wp2
    all_goals refine bodyPost_ret (v := .tuple #[.string ⟨#[]⟩, .bool false, .int .i64 13]) (by simp [results, Tryd.results8, go_sem]) rfl ⟨rfl, ?_⟩
    all_goals first | exact HBW3.out | exact HBW3.out.drew
  | some q =>
    obtain ⟨o, ts'⟩ := q
    cases o with
    | none =>
      cases ts' with
      | nil =>
        go_enter Tryd.func8, Tryd.ntmps8
        go_wp2_with fail
        refine (HR.out _).mono ?_
        rintro e w1 ⟨rfl, hb1⟩
        have hbw1 : Below w.heap.size w w1 := (below_alloc w _).trans (hb1.mono (by simp))
        have htop : w1.heap[w.heap.size]? = some (.cells #[.nilIface, .string root] 49 (0, 0)) := (hb1.block w.heap.size (by simp)).trans (heap_alloc_new w _)
        have HB1 := hide (And.intro hbw1 htop)
        have hlt := (Array.getElem?_eq_some_iff.1 htop).1
        have htopa : ∀ o, (w1.alloc o).heap[w.heap.size]? = some (.cells #[.nilIface, .string root] 49 (0, 0)) := fun o => (Below.heap_alloc _ _ _ hlt).trans htop
        have z0 : ∀ o, (w1.alloc o).cell? ⟨w.heap.size, 0, none⟩ = some .nilIface := fun o => cell_of_row _ _ 0 _ _ (0, 0) (htopa o)
        have z1 : ∀ o, (w1.alloc o).cell? ⟨w.heap.size, 1, none⟩ = some (.string root) := fun o => cell_of_row _ _ 1 _ _ (0, 0) (htopa o)
        have HU0 : Hid (Un (w1.alloc (.cells #[.slice ao ts.length cap] 51)).drew w1.heap.size ts) := (Un.start (HX.out.keep hbw1) HC.out).keep (Below.refl _ _).drew
        have HT1 : Hid (Tb (w1.alloc (.cells #[.slice ao ts.length cap] 51)).drew) := (HT.out.keep hbw1).keep (below_alloc _ _).drew
        have HU2 : Hid (2 ≤ w1.heap.size) := (HT.out.keep hbw1).two
        clear hb1 hbw1 htop hlt htopa
        have HAft : Hid (∀ w2 w3 : World, Below (w1.alloc (.cells #[.slice ao ts.length cap] 51)).drew.heap.size (w1.alloc (.cells #[.slice ao ts.length cap] 51)).drew w2 → w2.grownBy w3 (some w1.heap.size) → w3.cell? ⟨w.heap.size, 0, none⟩ = some .nilIface ∧ w3.cell? ⟨w.heap.size, 1, none⟩ = some (.string root) ∧ Hid (Below w.heap.size w w3)) := fun w2 w3 h2 h3 => by
          have hlt := (Array.getElem?_eq_some_iff.1 HB1.out.2).1
          have hs1 := HB1.out.1.size
          have h2s := h2.size
          simp only [World.size_alloc, World.size_drew] at h2s
          have hall : ∀ k, k < w1.heap.size → w3.heap[k]? = w1.heap[k]? := fun k hk => by
            rw [h3.block k (by omega) (fun e => by injection e with e; omega), h2.block k (by simp only [World.size_alloc, World.size_drew]; omega)]
            exact Below.heap_alloc _ _ _ hk
          have hb : w3.heap[w.heap.size]? = some (.cells #[.nilIface, .string root] 49 (0, 0)) := (hall _ hlt).trans HB1.out.2
          refine ⟨cell_of_row _ _ 0 _ _ (0, 0) hb, cell_of_row _ _ 1 _ _ (0, 0) hb, ⟨h3.os.trans (h2.os.trans HB1.out.1.os), h3.tape.trans (h2.tape.trans HB1.out.1.tape), h3.output.trans (h2.output.trans HB1.out.1.output), by have := h3.size; omega, fun k hk => (hall k (by omega)).trans (HB1.out.1.block k hk)⟩⟩
        go_wp2_with fail
        go_region_held3 (fun W => W.cell? ⟨w.heap.size, 0, none⟩ = some .nilIface ∧ W.cell? ⟨w.heap.size, 1, none⟩ = some (.string root)) (first | go_keep | (simp [*])) ((first
          | (go_at_call 16; refine (HOf.out _).mono ?_; rintro e w2 ⟨gp, rfl, hown, hb2⟩; (have HO2 := hide (And.intro hown hb2)); (have d0 := ((hb2.cell (p := ⟨w.heap.size, 0, none⟩) (by have := (Array.getElem?_eq_some_iff.1 HB1.out.2).1; show _ < (World.alloc _ _).heap.size; simp only [World.size_alloc]; omega)).trans (z0 _))); (have d1 := ((hb2.cell (p := ⟨w.heap.size, 1, none⟩) (by have := (Array.getElem?_eq_some_iff.1 HB1.out.2).1; show _ < (World.alloc _ _).heap.size; simp only [World.size_alloc]; omega)).trans (z1 _))); clear hown hb2)
          | (go_at_call 14; have hpt := own_pt HO2.out.1; have hgs : w1.heap.size + 1 ≤ gp := (by have := hpt.1; simp only [World.size_alloc, World.size_drew] at this; exact this); refine (HG.out w1.heap.size gp w2 (HT1.out.keep HO2.out.2) HU2.out (by omega) hpt.2 (Ints.own HO2.out.1) (HU0.out.keep HO2.out.2)).mono ?_; intro e w3 hgp; obtain ⟨hgr3, rfl, hun3⟩ := hgp; obtain ⟨ao3, cap3, hu3, _⟩ := hun3; have l0 : w3.cell? ⟨w1.heap.size, 0, none⟩ = some (.slice ao3 0 cap3) := cell_of_row _ _ 0 _ _ (0, 0) hu3; clear hu3; have HX3 := hide hgr3; obtain ⟨c0, c1, HBW3⟩ := HAft.out w2 w3 HO2.out.2 HX3.out; clear hpt hgs hgr3)))
        all_goals go_wp2_with fail
        all_goals refine (clone_any e0 _ (by decide)).mono ?_
        all_goals
          rintro e w4 ⟨rfl, hb4⟩
          go_wp2
          refine bodyPost_ret (v := .tuple #[.string e0, .bool false, .int .i64 0]) (by simp [results, Tryd.results8, go_sem]) rfl ⟨rfl, ?_⟩
          exact HBW3.out.trans (hb4.mono (by first | exact HBW3.out.size | exact HBW3.out.drew.size))
      | cons t r =>
        have jr : (0 : Int) < (r.length : Int) + 1 := by omega
        go_enter Tryd.func8, Tryd.ntmps8
        go_wp2_with fail
        refine (HR.out _).mono ?_
        rintro e w1 ⟨rfl, hb1⟩
        have hbw1 : Below w.heap.size w w1 := (below_alloc w _).trans (hb1.mono (by simp))
        have htop : w1.heap[w.heap.size]? = some (.cells #[.nilIface, .string root] 49 (0, 0)) := (hb1.block w.heap.size (by simp)).trans (heap_alloc_new w _)
        have HB1 := hide (And.intro hbw1 htop)
        have hlt := (Array.getElem?_eq_some_iff.1 htop).1
        have htopa : ∀ o, (w1.alloc o).heap[w.heap.size]? = some (.cells #[.nilIface, .string root] 49 (0, 0)) := fun o => (Below.heap_alloc _ _ _ hlt).trans htop
        have z0 : ∀ o, (w1.alloc o).cell? ⟨w.heap.size, 0, none⟩ = some .nilIface := fun o => cell_of_row _ _ 0 _ _ (0, 0) (htopa o)
        have z1 : ∀ o, (w1.alloc o).cell? ⟨w.heap.size, 1, none⟩ = some (.string root) := fun o => cell_of_row _ _ 1 _ _ (0, 0) (htopa o)
        have HU0 : Hid (Un (w1.alloc (.cells #[.slice ao ts.length cap] 51)).drew w1.heap.size ts) := (Un.start (HX.out.keep hbw1) HC.out).keep (Below.refl _ _).drew
        have HT1 : Hid (Tb (w1.alloc (.cells #[.slice ao ts.length cap] 51)).drew) := (HT.out.keep hbw1).keep (below_alloc _ _).drew
        have HU2 : Hid (2 ≤ w1.heap.size) := (HT.out.keep hbw1).two
        clear hb1 hbw1 htop hlt htopa
        have HAft : Hid (∀ w2 w3 : World, Below (w1.alloc (.cells #[.slice ao ts.length cap] 51)).drew.heap.size (w1.alloc (.cells #[.slice ao ts.length cap] 51)).drew w2 → w2.grownBy w3 (some w1.heap.size) → w3.cell? ⟨w.heap.size, 0, none⟩ = some .nilIface ∧ w3.cell? ⟨w.heap.size, 1, none⟩ = some (.string root) ∧ Hid (Below w.heap.size w w3)) := fun w2 w3 h2 h3 => by
          have hlt := (Array.getElem?_eq_some_iff.1 HB1.out.2).1
          have hs1 := HB1.out.1.size
          have h2s := h2.size
          simp only [World.size_alloc, World.size_drew] at h2s
          have hall : ∀ k, k < w1.heap.size → w3.heap[k]? = w1.heap[k]? := fun k hk => by
            rw [h3.block k (by omega) (fun e => by injection e with e; omega), h2.block k (by simp only [World.size_alloc, World.size_drew]; omega)]
            exact Below.heap_alloc _ _ _ hk
          have hb : w3.heap[w.heap.size]? = some (.cells #[.nilIface, .string root] 49 (0, 0)) := (hall _ hlt).trans HB1.out.2
          refine ⟨cell_of_row _ _ 0 _ _ (0, 0) hb, cell_of_row _ _ 1 _ _ (0, 0) hb, ⟨h3.os.trans (h2.os.trans HB1.out.1.os), h3.tape.trans (h2.tape.trans HB1.out.1.tape), h3.output.trans (h2.output.trans HB1.out.1.output), by have := h3.size; omega, fun k hk => (hall k (by omega)).trans (HB1.out.1.block k hk)⟩⟩
        go_wp2_with fail
        go_region_held3 (fun W => W.cell? ⟨w.heap.size, 0, none⟩ = some .nilIface ∧ W.cell? ⟨w.heap.size, 1, none⟩ = some (.string root)) (first | go_keep | (simp [*])) ((first
          | (go_at_call 16; refine (HOf.out _).mono ?_; rintro e w2 ⟨gp, rfl, hown, hb2⟩; (have HO2 := hide (And.intro hown hb2)); (have d0 := ((hb2.cell (p := ⟨w.heap.size, 0, none⟩) (by have := (Array.getElem?_eq_some_iff.1 HB1.out.2).1; show _ < (World.alloc _ _).heap.size; simp only [World.size_alloc]; omega)).trans (z0 _))); (have d1 := ((hb2.cell (p := ⟨w.heap.size, 1, none⟩) (by have := (Array.getElem?_eq_some_iff.1 HB1.out.2).1; show _ < (World.alloc _ _).heap.size; simp only [World.size_alloc]; omega)).trans (z1 _))); clear hown hb2)
          | (go_at_call 14; have hpt := own_pt HO2.out.1; have hgs : w1.heap.size + 1 ≤ gp := (by have := hpt.1; simp only [World.size_alloc, World.size_drew] at this; exact this); refine (HG.out w1.heap.size gp w2 (HT1.out.keep HO2.out.2) HU2.out (by omega) hpt.2 (Ints.own HO2.out.1) (HU0.out.keep HO2.out.2)).mono ?_; intro e w3 hgp; obtain ⟨hgr3, rfl, hun3⟩ := hgp; obtain ⟨ao3, cap3, hu3, _⟩ := hun3; have l0 : w3.cell? ⟨w1.heap.size, 0, none⟩ = some (.slice ao3 (r.length + 1) cap3) := cell_of_row _ _ 0 _ _ (0, 0) hu3; clear hu3; have HX3 := hide hgr3; obtain ⟨c0, c1, HBW3⟩ := HAft.out w2 w3 HO2.out.2 HX3.out; clear hpt hgs hgr3)))
        all_goals go_wp2
        all_goals refine bodyPost_ret (v := .tuple #[.string ⟨#[]⟩, .bool false, .int .i64 13]) (by simp [results, Tryd.results8, go_sem]) rfl ⟨rfl, ?_⟩
        all_goals first | exact HBW3.out | exact HBW3.out.drew
    | some x =>
      cases ts' with
      | nil =>
        go_enter Tryd.func8, Tryd.ntmps8
        go_wp2_with fail
        refine (HR.out _).mono ?_
        rintro e w1 ⟨rfl, hb1⟩
        have hbw1 : Below w.heap.size w w1 := (below_alloc w _).trans (hb1.mono (by simp))
        have htop : w1.heap[w.heap.size]? = some (.cells #[.nilIface, .string root] 49 (0, 0)) := (hb1.block w.heap.size (by simp)).trans (heap_alloc_new w _)
        have HB1 := hide (And.intro hbw1 htop)
        have hlt := (Array.getElem?_eq_some_iff.1 htop).1
        have htopa : ∀ o, (w1.alloc o).heap[w.heap.size]? = some (.cells #[.nilIface, .string root] 49 (0, 0)) := fun o => (Below.heap_alloc _ _ _ hlt).trans htop
        have z0 : ∀ o, (w1.alloc o).cell? ⟨w.heap.size, 0, none⟩ = some .nilIface := fun o => cell_of_row _ _ 0 _ _ (0, 0) (htopa o)
        have z1 : ∀ o, (w1.alloc o).cell? ⟨w.heap.size, 1, none⟩ = some (.string root) := fun o => cell_of_row _ _ 1 _ _ (0, 0) (htopa o)
        have HU0 : Hid (Un (w1.alloc (.cells #[.slice ao ts.length cap] 51)).drew w1.heap.size ts) := (Un.start (HX.out.keep hbw1) HC.out).keep (Below.refl _ _).drew
        have HT1 : Hid (Tb (w1.alloc (.cells #[.slice ao ts.length cap] 51)).drew) := (HT.out.keep hbw1).keep (below_alloc _ _).drew
        have HU2 : Hid (2 ≤ w1.heap.size) := (HT.out.keep hbw1).two
        clear hb1 hbw1 htop hlt htopa
        have HAft : Hid (∀ w2 w3 : World, Below (w1.alloc (.cells #[.slice ao ts.length cap] 51)).drew.heap.size (w1.alloc (.cells #[.slice ao ts.length cap] 51)).drew w2 → w2.grownBy w3 (some w1.heap.size) → w3.cell? ⟨w.heap.size, 0, none⟩ = some .nilIface ∧ w3.cell? ⟨w.heap.size, 1, none⟩ = some (.string root) ∧ Hid (Below w.heap.size w w3)) := fun w2 w3 h2 h3 => by
          have hlt := (Array.getElem?_eq_some_iff.1 HB1.out.2).1
          have hs1 := HB1.out.1.size
          have h2s := h2.size
          simp only [World.size_alloc, World.size_drew] at h2s
          have hall : ∀ k, k < w1.heap.size → w3.heap[k]? = w1.heap[k]? := fun k hk => by
            rw [h3.block k (by omega) (fun e => by injection e with e; omega), h2.block k (by simp only [World.size_alloc, World.size_drew]; omega)]
            exact Below.heap_alloc _ _ _ hk
          have hb : w3.heap[w.heap.size]? = some (.cells #[.nilIface, .string root] 49 (0, 0)) := (hall _ hlt).trans HB1.out.2
          refine ⟨cell_of_row _ _ 0 _ _ (0, 0) hb, cell_of_row _ _ 1 _ _ (0, 0) hb, ⟨h3.os.trans (h2.os.trans HB1.out.1.os), h3.tape.trans (h2.tape.trans HB1.out.1.tape), h3.output.trans (h2.output.trans HB1.out.1.output), by have := h3.size; omega, fun k hk => (hall k (by omega)).trans (HB1.out.1.block k hk)⟩⟩
        go_wp2_with fail
        go_region_held3 (fun W => W.cell? ⟨w.heap.size, 0, none⟩ = some .nilIface ∧ W.cell? ⟨w.heap.size, 1, none⟩ = some (.string root)) (first | go_keep | (simp [*])) ((first
          | (go_at_call 16; refine (HOf.out _).mono ?_; rintro e w2 ⟨gp, rfl, hown, hb2⟩; (have HO2 := hide (And.intro hown hb2)); (have d0 := ((hb2.cell (p := ⟨w.heap.size, 0, none⟩) (by have := (Array.getElem?_eq_some_iff.1 HB1.out.2).1; show _ < (World.alloc _ _).heap.size; simp only [World.size_alloc]; omega)).trans (z0 _))); (have d1 := ((hb2.cell (p := ⟨w.heap.size, 1, none⟩) (by have := (Array.getElem?_eq_some_iff.1 HB1.out.2).1; show _ < (World.alloc _ _).heap.size; simp only [World.size_alloc]; omega)).trans (z1 _))); clear hown hb2)
          | (go_at_call 14; have hpt := own_pt HO2.out.1; have hgs : w1.heap.size + 1 ≤ gp := (by have := hpt.1; simp only [World.size_alloc, World.size_drew] at this; exact this); refine (HG.out w1.heap.size gp w2 (HT1.out.keep HO2.out.2) HU2.out (by omega) hpt.2 (Ints.own HO2.out.1) (HU0.out.keep HO2.out.2)).mono ?_; intro e w3 hgp; obtain ⟨hgr3, rfl, hun3⟩ := hgp; obtain ⟨ao3, cap3, hu3, _⟩ := hun3; have l0 : w3.cell? ⟨w1.heap.size, 0, none⟩ = some (.slice ao3 0 cap3) := cell_of_row _ _ 0 _ _ (0, 0) hu3; clear hu3; have HX3 := hide hgr3; obtain ⟨c0, c1, HBW3⟩ := HAft.out w2 w3 HO2.out.2 HX3.out; clear hpt hgs hgr3)))
        all_goals go_wp2_with fail
        all_goals refine (clone_any x _ (by have := HVB.out x [] rfl; omega)).mono ?_
        all_goals
          rintro e w4 ⟨rfl, hb4⟩
          go_wp2
          refine bodyPost_ret (v := .tuple #[.string x, .bool true, .int .i64 0]) (by simp [results, Tryd.results8, go_sem]) rfl ⟨rfl, ?_⟩
          exact HBW3.out.trans (hb4.mono (by first | exact HBW3.out.size | exact HBW3.out.drew.size))
      | cons t r =>
        have jr : (0 : Int) < (r.length : Int) + 1 := by omega
        go_enter Tryd.func8, Tryd.ntmps8
        go_wp2_with fail
        refine (HR.out _).mono ?_
        rintro e w1 ⟨rfl, hb1⟩
        have hbw1 : Below w.heap.size w w1 := (below_alloc w _).trans (hb1.mono (by simp))
        have htop : w1.heap[w.heap.size]? = some (.cells #[.nilIface, .string root] 49 (0, 0)) := (hb1.block w.heap.size (by simp)).trans (heap_alloc_new w _)
        have HB1 := hide (And.intro hbw1 htop)
        have hlt := (Array.getElem?_eq_some_iff.1 htop).1
        have htopa : ∀ o, (w1.alloc o).heap[w.heap.size]? = some (.cells #[.nilIface, .string root] 49 (0, 0)) := fun o => (Below.heap_alloc _ _ _ hlt).trans htop
        have z0 : ∀ o, (w1.alloc o).cell? ⟨w.heap.size, 0, none⟩ = some .nilIface := fun o => cell_of_row _ _ 0 _ _ (0, 0) (htopa o)
        have z1 : ∀ o, (w1.alloc o).cell? ⟨w.heap.size, 1, none⟩ = some (.string root) := fun o => cell_of_row _ _ 1 _ _ (0, 0) (htopa o)
        have HU0 : Hid (Un (w1.alloc (.cells #[.slice ao ts.length cap] 51)).drew w1.heap.size ts) := (Un.start (HX.out.keep hbw1) HC.out).keep (Below.refl _ _).drew
        have HT1 : Hid (Tb (w1.alloc (.cells #[.slice ao ts.length cap] 51)).drew) := (HT.out.keep hbw1).keep (below_alloc _ _).drew
        have HU2 : Hid (2 ≤ w1.heap.size) := (HT.out.keep hbw1).two
        clear hb1 hbw1 htop hlt htopa
        have HAft : Hid (∀ w2 w3 : World, Below (w1.alloc (.cells #[.slice ao ts.length cap] 51)).drew.heap.size (w1.alloc (.cells #[.slice ao ts.length cap] 51)).drew w2 → w2.grownBy w3 (some w1.heap.size) → w3.cell? ⟨w.heap.size, 0, none⟩ = some .nilIface ∧ w3.cell? ⟨w.heap.size, 1, none⟩ = some (.string root) ∧ Hid (Below w.heap.size w w3)) := fun w2 w3 h2 h3 => by
          have hlt := (Array.getElem?_eq_some_iff.1 HB1.out.2).1
          have hs1 := HB1.out.1.size
          have h2s := h2.size
          simp only [World.size_alloc, World.size_drew] at h2s
          have hall : ∀ k, k < w1.heap.size → w3.heap[k]? = w1.heap[k]? := fun k hk => by
            rw [h3.block k (by omega) (fun e => by injection e with e; omega), h2.block k (by simp only [World.size_alloc, World.size_drew]; omega)]
            exact Below.heap_alloc _ _ _ hk
          have hb : w3.heap[w.heap.size]? = some (.cells #[.nilIface, .string root] 49 (0, 0)) := (hall _ hlt).trans HB1.out.2
          refine ⟨cell_of_row _ _ 0 _ _ (0, 0) hb, cell_of_row _ _ 1 _ _ (0, 0) hb, ⟨h3.os.trans (h2.os.trans HB1.out.1.os), h3.tape.trans (h2.tape.trans HB1.out.1.tape), h3.output.trans (h2.output.trans HB1.out.1.output), by have := h3.size; omega, fun k hk => (hall k (by omega)).trans (HB1.out.1.block k hk)⟩⟩
        go_wp2_with fail
        go_region_held3 (fun W => W.cell? ⟨w.heap.size, 0, none⟩ = some .nilIface ∧ W.cell? ⟨w.heap.size, 1, none⟩ = some (.string root)) (first | go_keep | (simp [*])) ((first
          | (go_at_call 16; refine (HOf.out _).mono ?_; rintro e w2 ⟨gp, rfl, hown, hb2⟩; (have HO2 := hide (And.intro hown hb2)); (have d0 := ((hb2.cell (p := ⟨w.heap.size, 0, none⟩) (by have := (Array.getElem?_eq_some_iff.1 HB1.out.2).1; show _ < (World.alloc _ _).heap.size; simp only [World.size_alloc]; omega)).trans (z0 _))); (have d1 := ((hb2.cell (p := ⟨w.heap.size, 1, none⟩) (by have := (Array.getElem?_eq_some_iff.1 HB1.out.2).1; show _ < (World.alloc _ _).heap.size; simp only [World.size_alloc]; omega)).trans (z1 _))); clear hown hb2)
          | (go_at_call 14; have hpt := own_pt HO2.out.1; have hgs : w1.heap.size + 1 ≤ gp := (by have := hpt.1; simp only [World.size_alloc, World.size_drew] at this; exact this); refine (HG.out w1.heap.size gp w2 (HT1.out.keep HO2.out.2) HU2.out (by omega) hpt.2 (Ints.own HO2.out.1) (HU0.out.keep HO2.out.2)).mono ?_; intro e w3 hgp; obtain ⟨hgr3, rfl, hun3⟩ := hgp; obtain ⟨ao3, cap3, hu3, _⟩ := hun3; have l0 : w3.cell? ⟨w1.heap.size, 0, none⟩ = some (.slice ao3 (r.length + 1) cap3) := cell_of_row _ _ 0 _ _ (0, 0) hu3; clear hu3; have HX3 := hide hgr3; obtain ⟨c0, c1, HBW3⟩ := HAft.out w2 w3 HO2.out.2 HX3.out; clear hpt hgs hgr3)))
        all_goals go_wp2
        all_goals refine bodyPost_ret (v := .tuple #[.string ⟨#[]⟩, .bool false, .int .i64 13]) (by simp [results, Tryd.results8, go_sem]) rfl ⟨rfl, ?_⟩
        all_goals first | exact HBW3.out | exact HBW3.out.drew
end Go.Proofs.YtkegignigkhleaaDoor
