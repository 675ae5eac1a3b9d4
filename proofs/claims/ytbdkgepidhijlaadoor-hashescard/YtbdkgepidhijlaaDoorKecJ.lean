/-
  OUR OWN: the walk of canopyref.permuted.
-/
import Derived.Test.YtbdkgepidhijlaaDoorKecI
namespace Go.Proofs.YtbdkgepidhijlaaDoor
open Go.RowKit

set_option maxRecDepth 100000 in
set_option maxHeartbeats 8000000 in
theorem permuted_any (ga gc cc : Nat) (f : Nat → Nat) (w : World) (hA : At w ga 27 25 f) (hf : ∀ j, W64 (f j)) (hC : ∀ j, j < 24 → w.cell? ⟨gc, j, none⟩ = some (.int .u64 ((rc j : Nat) : Int))) :
    Calls Tryd.prog 8 #[.slice (some ⟨ga, 0, none⟩) 25 25, .slice (some ⟨gc, 0, none⟩) 24 cc] w fun e w' => ∃ g, e = .returned (.slice (some ⟨g, 0, none⟩) 25 25) ∧ At w' g 27 25 (permTo f 24) ∧ w.heap.size ≤ g ∧ w.grownBy w' none := by
  have hm5 := make5
  have hm25 := make25
  have HA := hide hA
  have HC := hide hC
  have HW := hide (fun k => permTo_w hf k)
  clear hA hC hf
  go_enter Tryd.func8, Tryd.ntmps8
  go_wp2
  go_loopw [0, 5] (fun v i wr => ∃ k g : Nat, k ≤ 24 ∧ i = .int .i64 (k : Int) ∧ v = .slice (some ⟨g, 0, none⟩) 25 25 ∧ At wr g 27 25 (permTo f k) ∧ Hid (k = 0 ∨ w.heap.size ≤ g) ∧ w.grownBy wr none) (fun _ i _ => 24 - (intOf i).toNat)
  case atStart => exact ⟨0, ga, Nat.zero_le _, rfl, rfl, HA.out, .inl rfl, World.grownBy.refl _ _⟩
  case round =>
    obtain ⟨k, g, hk, rfl, rfl, hA, hkg, hg⟩ := hrel
    have HP := hide hA
    have HG := hide hg
    clear hA hg HA
    by_cases hlt : k < 24
    · have hF := HW.out k
      generalize hpk : permTo f k = F at *
      have HPK := hide hpk
      clear hpk
      obtain ⟨wo, hwo⟩ : ∃ wo : World, wo = wr := ⟨_, rfl⟩
      subst hwo
      have hkd : decide ((k : Int) < 24) = true := by simp; omega
      go_wp2
      clear hkd
      go_loopw [7] (fun i wr => ∃ k : Nat, k ≤ 25 ∧ i = .int .i64 (k : Int) ∧ At wr wo.heap.size 27 5 (colTo F k) ∧ wo.grownBy wr none) (fun i _ => 25 - (intOf i).toNat)
      case atStart => exact ⟨0, Nat.zero_le _, rfl, heap_alloc_new wo _, World.grownBy_alloc wo _ _⟩
      case round =>
        obtain ⟨i, hi, rfl, hC2, hg⟩ := hrel
        by_cases hil : i < 25
        · have hx := hC2.cell (i % 5) (by omega)
          have hfz := hC2.free (i % 5)
          have hy := (HP.out.grown hg (by simp)).cell i hil
          have hxor := xor_u64 (colTo F i (i % 5)) (F i) (colTo_w hF _ _) (hF i)
          have HS : Hid (∀ nq, At ((wr.drewN nq).setCell ⟨wo.heap.size, i % 5, none⟩ (.int .u64 ((colTo F i (i % 5) ^^^ F i : Nat) : Int))) wo.heap.size 27 5 (colTo F (i + 1)) ∧ wo.grownBy ((wr.drewN nq).setCell ⟨wo.heap.size, i % 5, none⟩ (.int .u64 ((colTo F i (i % 5) ^^^ F i : Nat) : Int))) none) :=
            fun nq => ⟨(At.set (w := wr.drewN nq) hC2 (i % 5) _).congr (fun j _ => colTo_succ F i j), grown_set (grown_drewN hg nq) _ _ _ (.inl (Nat.le_refl _))⟩
          generalize colTo F i (i % 5) ^^^ F i = z at *
          generalize colTo F i (i % 5) = x at *
          generalize F i = y at hy hxor
          clear hC2 hg
          obtain ⟨p, hp⟩ : ∃ p, Hid (i % 5 = p) := ⟨_, rfl⟩
          rw [hp.out] at hx hfz HS
          have b0 : (0 : Int) ≤ (i : Int) := by omega
          have b1 : (i : Int) < 25 := by omega
          have r1 : (i : Int).tmod 5 = (p : Int) := by rw [Int.tmod_eq_emod_of_nonneg (by omega)]; have := hp.out; omega
          have b2 : (0 : Int) ≤ (p : Int) := by omega
          have b3 : (p : Int) < 5 := by have := hp.out; omega
          go_wp2
          go_region
          all_goals
            go_wp2
            go_roundw
            case rel => exact ⟨i + 1, by omega, by go_num, (HS.out 1).1, (HS.out 1).2⟩
            case measure => simp [intOf]; omega
        · have hi25 : i = 25 := by omega
          rw [hi25] at hC2
          have HS2 := hide hC2
          have HG2 := hide hg
          clear hC2 hg hi25
          obtain ⟨w2, hw2⟩ : ∃ w2 : World, w2 = wr := ⟨_, rfl⟩
          subst hw2
          have hid : decide ((i : Int) < 25) = false := by simp; omega
          go_wp2
          clear hid hil hi
          go_loopw [9] (fun i wr => ∃ k : Nat, k ≤ 25 ∧ i = .int .i64 (k : Int) ∧ At wr w2.heap.size 27 25 (upTo k (thetaF F) zeroF) ∧ w2.grownBy wr none) (fun i _ => 25 - (intOf i).toNat)
          case atStart => exact ⟨0, Nat.zero_le _, rfl, At.congr (heap_alloc_new w2 _) (fun j _ => upTo_zero _ _ j), World.grownBy_alloc w2 _ _⟩
          case round =>
            obtain ⟨j, hj, rfl, hB, hg⟩ := hrel
            by_cases hjl : j < 25
            · have hx := ((HP.out.grown HG2.out (by simp)).grown hg (by simp)).cell j hjl
              have hs1 := (HS2.out.grown hg (by simp)).cell ((j + 4) % 5) (by omega)
              have hs2 := (HS2.out.grown hg (by simp)).cell ((j + 1) % 5) (by omega)
              have hfz := hB.free j
              obtain ⟨u0, hu0⟩ : ∃ u, wr.cell? ⟨w2.heap.size, j, none⟩ = some u := ⟨_, hB.cell j hjl⟩
              have w1 := colTo_w hF 25 ((j + 4) % 5)
              have w2' := colTo_w hF 25 ((j + 1) % 5)
              have hxor1 := xor_u64 (F j) (colTo F 25 ((j + 4) % 5)) (hF j) w1
              have hxor2 := xor_u64 (F j ^^^ colTo F 25 ((j + 4) % 5)) (rot (colTo F 25 ((j + 1) % 5)) 1) (W64.xor (hF j) w1) (rot_w w2' 1)
              have HS : Hid (∀ nq, At ((wr.drewN nq).setCell ⟨w2.heap.size, j, none⟩ (.int .u64 ((thetaF F j : Nat) : Int))) w2.heap.size 27 25 (upTo (j + 1) (thetaF F) zeroF) ∧ w2.grownBy ((wr.drewN nq).setCell ⟨w2.heap.size, j, none⟩ (.int .u64 ((thetaF F j : Nat) : Int))) none) :=
                fun nq => ⟨(At.set (w := wr.drewN nq) hB j _).congr (fun t _ => upTo_succ j _ _ t), grown_set (grown_drewN hg nq) _ _ _ (.inl (Nat.le_refl _))⟩
              rw [← thetaR] at HS
              clear hB hg
              generalize (F j ^^^ colTo F 25 ((j + 4) % 5)) ^^^ rot (colTo F 25 ((j + 1) % 5)) 1 = T at *
              generalize F j ^^^ colTo F 25 ((j + 4) % 5) = xy at *
              generalize colTo F 25 ((j + 4) % 5) = y at *
              generalize hY : colTo F 25 ((j + 1) % 5) = z at *
              clear hY
              generalize F j = x at hx hxor1
              obtain ⟨p1, hp1⟩ : ∃ p, Hid ((j + 4) % 5 = p) := ⟨_, rfl⟩
              obtain ⟨p2, hp2⟩ : ∃ p, Hid ((j + 1) % 5 = p) := ⟨_, rfl⟩
              rw [hp1.out] at hs1
              rw [hp2.out] at hs2
              have b0 : (0 : Int) ≤ (j : Int) := by omega
              have b1 : (j : Int) < 25 := by omega
              have r1 : IntKind.i64.wrap ((j : Int) + 4) = (j : Int) + 4 := by rw [IntKind.wrap_i64]; omega
              have r2 : IntKind.i64.wrap ((j : Int) + 1) = (j : Int) + 1 := by rw [IntKind.wrap_i64]; omega
              have r3 : ((j : Int) + 4).tmod 5 = (p1 : Int) := by rw [Int.tmod_eq_emod_of_nonneg (by omega)]; have := hp1.out; omega
              have r4 : ((j : Int) + 1).tmod 5 = (p2 : Int) := by rw [Int.tmod_eq_emod_of_nonneg (by omega)]; have := hp2.out; omega
              have b2 : (0 : Int) ≤ (p1 : Int) := by omega
              have b3 : (p1 : Int) < 5 := by have := hp1.out; omega
              have b4 : (0 : Int) ≤ (p2 : Int) := by omega
              have b5 : (p2 : Int) < 5 := by have := hp2.out; omega
              have l1 := World.block_lt_of_cell? wr _ hu0
              have l2 := World.block_lt_of_cell? wr _ hx
              have l3 := World.block_lt_of_cell? wr _ hs1
              have g1 : g < wo.heap.size := HP.out.lt
              have g2 : wo.heap.size < w2.heap.size := HS2.out.lt
              have n1 : ∀ (W : World) (u : Value), (W.setCell ⟨w2.heap.size, j, none⟩ u).cell? ⟨g, j, none⟩ = W.cell? ⟨g, j, none⟩ := fun W u => World.cell?_of_block (a := ⟨g, j, none⟩) (Below.heap_setCell _ _ _ _ (by simp; omega))
              have n2 : ∀ (W : World) (u : Value), (W.setCell ⟨w2.heap.size, j, none⟩ u).cell? ⟨wo.heap.size, p1, none⟩ = W.cell? ⟨wo.heap.size, p1, none⟩ := fun W u => World.cell?_of_block (a := ⟨wo.heap.size, p1, none⟩) (Below.heap_setCell _ _ _ _ (by simp; omega))
              have n3 : ∀ (W : World) (u : Value), (W.setCell ⟨w2.heap.size, j, none⟩ u).cell? ⟨wo.heap.size, p2, none⟩ = W.cell? ⟨wo.heap.size, p2, none⟩ := fun W u => World.cell?_of_block (a := ⟨wo.heap.size, p2, none⟩) (Below.heap_setCell _ _ _ _ (by simp; omega))
              clear g1 g2 l1 l2 l3
              go_wp2
              go_region_held3 (fun w' => w'.cell? ⟨g, j, none⟩ = some (.int .u64 (x : Int)) ∧ w'.cell? ⟨wo.heap.size, p1, none⟩ = some (.int .u64 (y : Int)) ∧ w'.cell? ⟨wo.heap.size, p2, none⟩ = some (.int .u64 (z : Int)))
                (go_keep)
                ((go_at_call 12; refine (turned_one z _ w2').mono ?_; rintro e w' ⟨rfl, nq, rfl⟩))
              all_goals
                go_wp2
                go_roundw
                case rel => exact ⟨j + 1, by omega, by go_num, (HS.out _).1, (HS.out _).2⟩
                case measure => simp [intOf]; omega
            · have hj25 : j = 25 := by omega
              rw [hj25] at hB
              have HT3 : Hid (At wr w2.heap.size 27 25 (thetaF F)) := hB.congr (fun t ht => upTo_full 25 _ _ t ht)
              have HG3 := hide hg
              clear hB hg hj25
              obtain ⟨w3, hw3⟩ : ∃ w3 : World, w3 = wr := ⟨_, rfl⟩
              subst hw3
              have hjd : decide ((j : Int) < 25) = false := by simp; omega
              have hx0 := (HT3.out.alloc (.cells (arr 25 zeroF) 27)).cell 0 (by omega)
              have hA0 : At (w3.alloc (.cells (arr 25 zeroF) 27)) w3.heap.size 27 25 zeroF := heap_alloc_new w3 _
              have hu0 := hA0.cell 0 (by omega)
              have hf0 := hA0.free 0
              have HD0 := hide (And.intro (hA0.set 0 (thetaF F 0)) (grown_set (World.grownBy_alloc w3 (.cells (arr 25 zeroF) 27) none) w3.heap.size 0 (.int .u64 ((thetaF F 0 : Nat) : Int)) (.inl (Nat.le_refl _))))
              have hTw := thetaF_w hF
              generalize hTF : thetaF F = TF at *
              have HTF := hide hTF
              clear hTF hA0
              go_wp2
              clear hjd hjl hj hx0 hu0 hf0
              go_loopw [11, 12, 13, 14] (fun x y n i wr => ∃ t : Nat, t ≤ 24 ∧ i = .int .i64 (t : Int) ∧ x = .int .i64 ((xt t : Nat) : Int) ∧ y = .int .i64 ((yt t : Nat) : Int) ∧ n = .int .i64 ((ns t : Nat) : Int) ∧ At wr w3.heap.size 27 25 (rqTo TF t) ∧ w3.grownBy wr none) (fun _ _ _ i _ => 24 - (intOf i).toNat)
              case atStart => exact ⟨0, Nat.zero_le _, rfl, rfl, rfl, rfl, by unfold At; show _ = some (Obj.cells (arr 25 (updK zeroF 0 (TF 0))) 27 (0, 0)); rw [← arr_set]; exact heap_alloc_new w3 _, World.grownBy_alloc w3 _ _⟩
              case round =>
                obtain ⟨t, ht, rfl, rfl, rfl, rfl, hD, hg⟩ := hrel
                by_cases htl : t < 24
                · obtain ⟨e1, e2, e3, l1, l2, l3, l4⟩ := walk_fin ⟨t, htl⟩
                  simp only at e1 e2 e3 l1 l2 l3 l4
                  have hx := (HT3.out.grown hg (by simp)).cell (xt t + 5 * yt t) (by omega)
                  have hfz := hD.free (yt t + 5 * yt (t + 1))
                  obtain ⟨u0, hu0⟩ : ∃ u, wr.cell? ⟨w3.heap.size, yt t + 5 * yt (t + 1), none⟩ = some u := ⟨_, hD.cell _ (by omega)⟩
                  have HS : Hid (∀ nq, At ((wr.drewN nq).setCell ⟨w3.heap.size, yt t + 5 * yt (t + 1), none⟩ (.int .u64 ((rot (TF (xt t + 5 * yt t)) (ns (t + 1) % 64) : Nat) : Int))) w3.heap.size 27 25 (rqTo TF (t + 1)) ∧ w3.grownBy ((wr.drewN nq).setCell ⟨w3.heap.size, yt t + 5 * yt (t + 1), none⟩ (.int .u64 ((rot (TF (xt t + 5 * yt t)) (ns (t + 1) % 64) : Nat) : Int))) none) :=
                    fun nq => ⟨At.set (w := wr.drewN nq) hD _ _, grown_set (grown_drewN hg nq) _ _ _ (.inl (Nat.le_refl _))⟩
                  have HE1 := hide e1
                  have HTw := hTw (xt t + 5 * yt t)
                  clear hD hg e1
                  generalize TF (xt t + 5 * yt t) = v at *
                  generalize hn1 : ns (t + 1) = n1 at *
                  generalize hy1 : yt (t + 1) = y1 at *
                  have HN1 := hide hn1
                  have HY1 := hide hy1
                  clear hn1 hy1
                  generalize ns t = n0 at *
                  generalize xt t = x at *
                  generalize hyt : yt t = y at *
                  have HYT := hide hyt
                  clear hyt
                  have hn : (n0 : Int) + (t : Int) + 1 = (n1 : Int) := by omega
                  have hzz : (2 * (x : Int) + 3 * (y : Int)) % 5 = (y1 : Int) := by omega
                  obtain ⟨q, hq⟩ : ∃ q, Hid (x + 5 * y = q) := ⟨_, rfl⟩
                  obtain ⟨d, hd⟩ : ∃ d, Hid (y + 5 * y1 = d) := ⟨_, rfl⟩
                  rw [hq.out] at hx
                  rw [hd.out] at hfz hu0 HS
                  have hqq : (x : Int) + 5 * (y : Int) = (q : Int) := by have := hq.out; omega
                  have hdd : (y : Int) + 5 * (y1 : Int) = (d : Int) := by have := hd.out; omega
                  have bq : (q : Int) < 25 := by have := hq.out; omega
                  have bd : (d : Int) < 25 := by have := hd.out; omega
                  have bn : (n0 : Int) < 1000 := by omega
                  clear e2 e3
                  go_wp2_with fail
                  refine (turned_any v n1 _ HTw l3).mono ?_
                  rintro e w' ⟨rfl, nq, rfl⟩
                  go_wp2
                  go_roundw
                  case rel => exact ⟨t + 1, by omega, by go_num, by rw [HE1.out], by rw [HY1.out], by rw [HN1.out], (HS.out _).1, (HS.out _).2⟩
                  case measure => simp [intOf]; omega
                · have ht24 : t = 24 := by omega
                  rw [ht24] at hD
                  have HD : Hid (At wr w3.heap.size 27 25 (rpTo TF 25)) := hD.congr (rq_rp hTw)
                  have HG4 := hide hg
                  clear hD hg ht24
                  obtain ⟨w4, hw4⟩ : ∃ w4 : World, w4 = wr := ⟨_, rfl⟩
                  subst hw4
                  have htd : decide ((t : Int) < 24) = false := by simp; omega
                  have hRw := rpTo_w hTw 25
                  generalize hRF : rpTo TF 25 = RF at *
                  have HRF := hide hRF
                  clear hRF
                  go_wp2
                  clear htd htl ht
                  go_loopw [16] (fun i wr => ∃ k : Nat, k ≤ 25 ∧ i = .int .i64 (k : Int) ∧ At wr w4.heap.size 27 25 (upTo k (chiF RF) zeroF) ∧ w4.grownBy wr none) (fun i _ => 25 - (intOf i).toNat)
                  case atStart => exact ⟨0, Nat.zero_le _, rfl, At.congr (heap_alloc_new w4 _) (fun j _ => upTo_zero _ _ j), World.grownBy_alloc w4 _ _⟩
                  case round =>
                    obtain ⟨c, hc, rfl, hB, hg⟩ := hrel
                    by_cases hcl : c < 25
                    · have hC5 := HD.out.grown hg (by simp)
                      have hx := hC5.cell c hcl
                      have hy := hC5.cell (c - c % 5 + (c + 1) % 5) (by omega)
                      have hz := hC5.cell (c - c % 5 + (c + 2) % 5) (by omega)
                      have hfz := hB.free c
                      obtain ⟨u0, hu0⟩ : ∃ u, wr.cell? ⟨w4.heap.size, c, none⟩ = some u := ⟨_, hB.cell c hcl⟩
                      have HS : Hid (∀ nq, At ((wr.drewN nq).setCell ⟨w4.heap.size, c, none⟩ (.int .u64 ((chiF RF c : Nat) : Int))) w4.heap.size 27 25 (upTo (c + 1) (chiF RF) zeroF) ∧ w4.grownBy ((wr.drewN nq).setCell ⟨w4.heap.size, c, none⟩ (.int .u64 ((chiF RF c : Nat) : Int))) none) :=
                        fun nq => ⟨(At.set (w := wr.drewN nq) hB c _).congr (fun t _ => upTo_succ c _ _ t), grown_set (grown_drewN hg nq) _ _ _ (.inl (Nat.le_refl _))⟩
                      rw [← chiR] at HS
                      clear hB hg hC5
                      have wx := hRw c
                      have wy := hRw (c - c % 5 + (c + 1) % 5)
                      have wz := hRw (c - c % 5 + (c + 2) % 5)
                      obtain ⟨q1, hq1⟩ : ∃ q, Hid (c - c % 5 + (c + 1) % 5 = q) := ⟨_, rfl⟩
                      obtain ⟨q2, hq2⟩ : ∃ q, Hid (c - c % 5 + (c + 2) % 5 = q) := ⟨_, rfl⟩
                      rw [hq1.out] at hy HS wy
                      rw [hq2.out] at hz HS wz
                      generalize RF c = x at hx HS wx
                      generalize RF q1 = y at hy HS wy
                      generalize RF q2 = z at hz HS wz
                      have b0 : (0 : Int) ≤ (c : Int) := by omega
                      have b1 : (c : Int) < 25 := by omega
                      obtain ⟨r, hr⟩ : ∃ r, Hid (c - c % 5 = r) := ⟨_, rfl⟩
                      obtain ⟨p1, hp1⟩ : ∃ q, Hid ((c + 1) % 5 = q) := ⟨_, rfl⟩
                      obtain ⟨p2, hp2⟩ : ∃ q, Hid ((c + 2) % 5 = q) := ⟨_, rfl⟩
                      have hkr := hide (show (c : Int) - (c : Int) % 5 = (r : Int) from by have := hr.out; omega)
                      have r1 : IntKind.i64.wrap ((c : Int) + 1) = (c : Int) + 1 := by rw [IntKind.wrap_i64]; omega
                      have r2 : IntKind.i64.wrap ((c : Int) + 2) = (c : Int) + 2 := by rw [IntKind.wrap_i64]; omega
                      have r3 : ((c : Int) + 1).tmod 5 = (p1 : Int) := by rw [Int.tmod_eq_emod_of_nonneg (by omega)]; have := hp1.out; omega
                      have r4 : ((c : Int) + 2).tmod 5 = (p2 : Int) := by rw [Int.tmod_eq_emod_of_nonneg (by omega)]; have := hp2.out; omega
                      have r5 : IntKind.i64.wrap ((r : Int) + (p1 : Int)) = (q1 : Int) := by rw [IntKind.wrap_i64]; have := hq1.out; have := hp1.out; have := hr.out; omega
                      have r6 : IntKind.i64.wrap ((r : Int) + (p2 : Int)) = (q2 : Int) := by rw [IntKind.wrap_i64]; have := hq2.out; have := hp2.out; have := hr.out; omega
                      have b2 : (0 : Int) ≤ (q1 : Int) := by omega
                      have b3 : (q1 : Int) < 25 := by have := hq1.out; omega
                      have b4 : (0 : Int) ≤ (q2 : Int) := by omega
                      have b5 : (q2 : Int) < 25 := by have := hq2.out; omega
                      go_wp2
                      rw [hkr.out]
                      go_region
                      all_goals
                        go_wp2
                        rw [chi_eq x y z wx wy wz]
                        go_roundw
                        case rel => exact ⟨c + 1, by omega, by go_num, (HS.out 1).1, (HS.out 1).2⟩
                        case measure => simp [intOf]; omega
                    · have hc25 : c = 25 := by omega
                      rw [hc25] at hB
                      have hB5 := hB.congr (fun t ht => upTo_full 25 _ _ t ht)
                      have hx := hB5.cell 0 (by omega)
                      have hfz := hB5.free 0
                      have hgw : w.grownBy wr none := (((HG.out.trans HG2.out).trans HG3.out).trans HG4.out).trans hg
                      have hr := hgw.cell (HC.out k hlt) (by simp)
                      have hxor := xor_u64 (chiF RF 0) (rc k) (chiF_w hRw 0) (rc_w k)
                      have HS : Hid (∀ nq, At ((wr.drewN nq).setCell ⟨w4.heap.size, 0, none⟩ (.int .u64 ((chiF RF 0 ^^^ rc k : Nat) : Int))) w4.heap.size 27 25 (permTo f (k + 1)) ∧ w.grownBy ((wr.drewN nq).setCell ⟨w4.heap.size, 0, none⟩ (.int .u64 ((chiF RF 0 ^^^ rc k : Nat) : Int))) none) := by
                        intro nq
                        refine ⟨?_, grown_set (grown_drewN hgw nq) _ _ _ (.inl (by have := HG.out.size; have := HG2.out.size; have := HG3.out.size; have := HG4.out.size; omega))⟩
                        show At _ _ _ _ (roundF (permTo f k) k)
                        rw [HPK.out]
                        unfold roundF iotaF
                        rw [HTF.out, HRF.out]
                        exact At.set (w := wr.drewN nq) hB5 0 _
                      have HGE : Hid (w.heap.size ≤ w4.heap.size) := by show _ ≤ _; have := HG.out.size; have := HG2.out.size; have := HG3.out.size; have := HG4.out.size; omega
                      clear hB hB5 hg hgw hc25
                      generalize chiF RF 0 ^^^ rc k = T at *
                      generalize chiF RF 0 = x at *
                      generalize rc k = y at hr hxor
                      have hcd : decide ((c : Int) < 25) = false := by simp; omega
                      have b0 : (0 : Int) ≤ (k : Int) := by omega
                      have b1 : (k : Int) < 24 := by omega
                      go_wp2
                      go_region
                      all_goals
                        go_wp2
                        go_roundw
                        case rel => exact ⟨k + 1, w4.heap.size, by omega, by go_num, rfl, (HS.out 1).1, .inr HGE.out, (HS.out 1).2⟩
                        case measure => simp [intOf]; omega
    · have hk24 : k = 24 := by omega
      rw [hk24] at HP
      have HGG : Hid (w.heap.size ≤ g) := hkg.out.elim (fun h => absurd h (by omega)) id
      clear hk24
      go_wp2
      go_ret
      exact ⟨g, rfl, HP.out, HGG.out, HG.out⟩
end Go.Proofs.YtbdkgepidhijlaaDoor
