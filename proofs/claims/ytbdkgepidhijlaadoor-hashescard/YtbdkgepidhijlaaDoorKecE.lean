/-
  OUR OWN: the walk of (*state).permute.
-/
import Derived.Test.YtbdkgepidhijlaaDoorKecD
namespace Go.Proofs.YtbdkgepidhijlaaDoor
open Go.RowKit

theorem Tabs.grown {w w' : World} {b : Nat} (h : Tabs w) (hg : w.grownBy w' (some b)) (hb : 2 ≤ b) : Tabs w' :=
  ⟨fun j hj => hg.cell (h.rcs j hj) (by simp; omega), fun j hj => hg.cell (h.tus j hj) (by simp; omega)⟩
theorem Tabs.grownN {w w' : World} (h : Tabs w) (hg : w.grownBy w' none) : Tabs w' :=
  ⟨fun j hj => hg.cell (h.rcs j hj) (by simp), fun j hj => hg.cell (h.tus j hj) (by simp)⟩
theorem grown_any {w w' : World} (h : w.grownBy w' none) (row : Option Nat) : w.grownBy w' row := ⟨h.os, h.tape, h.output, h.size, fun k hk _ => h.block k hk (by simp)⟩

set_option maxRecDepth 100000 in
set_option maxHeartbeats 1000000 in
theorem permute_any (b : Nat) (f : Nat → Nat) (w : World) (hA : At w b 31 25 f) (hf : ∀ j, W64 (f j)) (hT : Tabs w) (hb2 : 2 ≤ b) :
    Calls Tryd.prog 14 #[.pointer (some ⟨b, 0, none⟩)] w fun e w' => e = .returned (.tuple #[]) ∧ At w' b 31 25 (permTo f 24) ∧ w.grownBy w' (some b) := by
  have hb := hA.lt
  have HA := hide hA
  have HT := hide hT
  have HW := hide (fun k => permTo_w hf k)
  clear hA hT
  go_enter Tryd.func14, Tryd.ntmps14
  go_wp2
  go_loopw [3] (fun i wr => ∃ k : Nat, k ≤ 24 ∧ i = .int .i64 (k : Int) ∧ At wr b 31 25 (permTo f k) ∧ w.grownBy wr (some b)) (fun i _ => 24 - (intOf i).toNat)
  case atStart => exact ⟨0, Nat.zero_le _, rfl, HA.out, World.grownBy.refl _ _⟩
  case round =>
    obtain ⟨k, hk, rfl, hA, hg⟩ := hrel
    by_cases hlt : k < 24
    · have HP := hide hA
      have HG := hide hg
      clear hA hg
      go_wp2_with fail
      refine (theta_any b (permTo f k) wr HP.out (HW.out k)).mono ?_
      rintro e w1 ⟨rfl, ha1, hg1⟩
      have H1 := hide (And.intro ha1 hg1)
      clear ha1 hg1
      go_wp2_with fail
      refine (rhoPi_any b _ w1 H1.out.1 (thetaF_w (HW.out k)) ((HT.out.grown HG.out hb2).grown H1.out.2 hb2)).mono ?_
      rintro e w2 ⟨rfl, hg2⟩
      have H2 := hide hg2
      clear hg2
      go_wp2_with fail
      refine (chi_any b _ _ w2 (H1.out.1.grown H2.out (by simp)) (rpTo_w (thetaF_w (HW.out k)) 25)).mono ?_
      rintro e w3 ⟨rfl, ha3, hg3⟩
      have HG3 : Hid (w.grownBy w3 (some b)) := ((HG.out.trans H1.out.2).trans (grown_any H2.out _)).trans hg3
      have hx := ha3.cell 0 (by omega)
      have hfz := ha3.free 0
      have hr := ((HT.out.grown HG3.out hb2).rcs k hlt)
      have hxor := xor_u64 (chiF (rpTo (thetaF (permTo f k)) 25) 0) (rc k) (chiF_w (rpTo_w (thetaF_w (HW.out k)) 25) 0) (rc_w k)
      have HS : Hid (∀ nq, At ((w3.drewN nq).setCell ⟨b, 0, none⟩ (.int .u64 ((chiF (rpTo (thetaF (permTo f k)) 25) 0 ^^^ rc k : Nat) : Int))) b 31 25 (permTo f (k + 1)) ∧ w.grownBy ((w3.drewN nq).setCell ⟨b, 0, none⟩ (.int .u64 ((chiF (rpTo (thetaF (permTo f k)) 25) 0 ^^^ rc k : Nat) : Int))) (some b)) :=
        fun nq => ⟨At.set (w := w3.drewN nq) ha3 0 _, grown_set (grown_drewN HG3.out nq) _ _ _ (.inr rfl)⟩
      clear ha3 hg3 HP HG H1 H2 HG3
      generalize chiF (rpTo (thetaF (permTo f k)) 25) 0 ^^^ rc k = T at *
      generalize chiF (rpTo (thetaF (permTo f k)) 25) 0 = x at *
      generalize rc k = y at hr hxor
      have b0 : (0 : Int) ≤ (k : Int) := by omega
      have b1 : (k : Int) < 24 := by omega
      go_wp2
      go_region
      all_goals
        go_wp2
        go_roundw
        case rel => exact ⟨k + 1, by omega, by go_num, (HS.out 1).1, (HS.out 1).2⟩
        case measure => simp [intOf]; omega
    · have hk25 : k = 24 := by omega
      rw [hk25] at hA
      have HF := hide hA
      have HG2 := hide hg
      clear hA hg hk25
      go_wp2
      go_end0
      exact ⟨rfl, HF.out, HG2.out⟩
end Go.Proofs.YtbdkgepidhijlaaDoor
