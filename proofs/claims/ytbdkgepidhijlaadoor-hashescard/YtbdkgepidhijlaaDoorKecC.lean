/-
  OUR OWN: the walk of (*state).rhoPi.
-/
import Derived.Test.YtbdkgepidhijlaaDoorKecB
import Derived.Deep.MidRow
namespace Go.Proofs.YtbdkgepidhijlaaDoor
open Go.RowKit

/-- the program's two tables, as they are laid -/
structure Tabs (w : World) : Prop where
  rcs : ∀ j, j < 24 → w.cell? ⟨0, j, none⟩ = some (.int .u64 (rc j : Nat))
  tus : ∀ j, j < 25 → w.cell? ⟨1, j, none⟩ = some (.int .i64 (tu j : Nat))

theorem arr25_zero : arr 25 (fun _ => 0) = #[.int .u64 0, .int .u64 0, .int .u64 0, .int .u64 0, .int .u64 0, .int .u64 0, .int .u64 0, .int .u64 0, .int .u64 0, .int .u64 0, .int .u64 0, .int .u64 0, .int .u64 0, .int .u64 0, .int .u64 0, .int .u64 0, .int .u64 0, .int .u64 0, .int .u64 0, .int .u64 0, .int .u64 0, .int .u64 0, .int .u64 0, .int .u64 0, .int .u64 0] := by rfl

theorem arr_toList (n : Nat) (f : Nat → Nat) : (arr n f).toList = (List.range n).map fun j => Value.int .u64 (f j : Nat) := by simp [arr]
theorem arr_drop (n o : Nat) (f : Nat → Nat) (h : o < n) : (arr n f).toList.drop o = Value.int .u64 (f o : Nat) :: (arr n f).toList.drop (o + 1) := by
  rw [List.drop_eq_getElem_cons (by simp [arr_toList, h])]
  simp [arr_toList]
theorem At.setAll {t : TypeId} {b n : Nat} {f g : Nat → Nat} : ∀ (m o : Nat) (w : World), n = o + m → At w b t n (upTo o g f) → At (w.setCells b o ((arr n g).toList.drop o)) b t n g
  | 0, o, w, hn, h => by
    rw [List.drop_eq_nil_of_le (by simp [arr_toList]; omega)]
    exact h.congr (fun j hj => by simp [upTo]; omega)
  | m + 1, o, w, hn, h => by
    rw [arr_drop n o g (by omega)]
    exact At.setAll m (o + 1) _ (by omega) ((h.set o (g o)).congr (fun j _ => upTo_succ o g f j))
theorem grown_setAll {w : World} {row : Option Nat} {b : Nat} (hb : w.heap.size ≤ b ∨ row = some b) : ∀ (vs : List Value) (o : Nat) (w' : World), w.grownBy w' row → w.grownBy (w'.setCells b o vs) row
  | [], _, _, h => h
  | v :: r, o, _, h => grown_setAll hb r (o + 1) _ (grown_set h b o v hb)
theorem arr_one (n : Nat) (f : Nat → Nat) : (arr n f).all (·.oneCell') = true := by
  rw [Array.all_eq_true_iff_forall_mem]
  intro v hv
  simp [arr] at hv
  obtain ⟨j, _, rfl⟩ := hv
  rfl
theorem At.there {w : World} {b : Nat} {t : TypeId} {n : Nat} {f : Nat → Nat} (h : At w b t n f) (g : Nat → Nat) : w.there b 0 (arr n g).size := by
  intro j hj
  rw [arr_size] at hj
  rw [Nat.zero_add, h.cell j hj, h.free j]
  simp
theorem size31 (f : Nat → Nat) : (Tryd.prog.info? 31).map (·.size) = some (arr 25 f).size := by
  rw [arr_size]; kernel_rfl

set_option maxRecDepth 100000 in
set_option maxHeartbeats 1000000 in
theorem rhoPi_any (b : Nat) (f : Nat → Nat) (w : World) (hA : At w b 31 25 f) (hf : ∀ j, W64 (f j)) (hT : Tabs w) :
    Calls Tryd.prog 17 #[.pointer (some ⟨b, 0, none⟩)] w fun e w' => e = .returned (.agg (arr 25 (rpTo f 25))) ∧ w.grownBy w' none := by
  have hb := hA.lt
  have HA := hide hA
  have HT := hide hT
  clear hA hT
  go_enter Tryd.func17, Tryd.ntmps17
  go_wp2
  go_loopw [9] (fun i wr => ∃ k : Nat, k ≤ 25 ∧ i = .int .i64 (k : Int) ∧ At wr w.heap.size 31 25 (fun _ => 0) ∧ At wr (w.heap.size + 1) 31 25 (rpTo f k) ∧ w.grownBy wr none) (fun i _ => 25 - (intOf i).toNat)
  case atStart => exact ⟨0, Nat.zero_le _, rfl, heap_alloc2_old w _ _, heap_alloc2_new w _ _, grown_alloc (World.grownBy_alloc w _ _) _⟩
  case round =>
    obtain ⟨k, hk, rfl, hR, hC, hg⟩ := hrel
    by_cases hlt : k < 25
    · have hy := (HA.out.grown hg (by simp)).cell k hlt
      have htu : wr.cell? ⟨1, k, none⟩ = some (.int .i64 (tu k : Nat)) := hg.cell (HT.out.tus k hlt) (by simp)
      have b0 : (0 : Int) ≤ (k : Int) := by omega
      have b1 : (k : Int) < 25 := by omega
      have ht := tu_lt k
      have hfz := hC.free (dest k)
      obtain ⟨u0, hu0⟩ : ∃ u, wr.cell? ⟨w.heap.size + 1, dest k, none⟩ = some u := ⟨_, hC.cell (dest k) (by unfold dest; omega)⟩
      have HS : Hid (∀ nq, At ((wr.drewN nq).setCell ⟨w.heap.size + 1, dest k, none⟩ (.int .u64 ((rot (f k) (tu k) : Nat) : Int))) w.heap.size 31 25 (fun _ => 0) ∧ At ((wr.drewN nq).setCell ⟨w.heap.size + 1, dest k, none⟩ (.int .u64 ((rot (f k) (tu k) : Nat) : Int))) (w.heap.size + 1) 31 25 (rpTo f (k + 1)) ∧ w.grownBy ((wr.drewN nq).setCell ⟨w.heap.size + 1, dest k, none⟩ (.int .u64 ((rot (f k) (tu k) : Nat) : Int))) none) :=
        fun nq => ⟨At.other (w := wr.drewN nq) hR (by omega) _ _, At.set (w := wr.drewN nq) hC (dest k) _, grown_set (grown_drewN hg nq) _ _ _ (.inl (by omega))⟩
      clear hR hC hg
      obtain ⟨D, hD⟩ : ∃ D, Hid (dest k = D) := ⟨_, rfl⟩
      rw [hD.out] at HS hfz hu0
      have hD1 : (D : Int) < 25 := by have := hD.out; unfold dest at this; omega
      have hD2 := hide (show (k : Int) / 5 + 5 * ((2 * ((k : Int) % 5) + 3 * ((k : Int) / 5)) % 5) = (D : Int) from by have := hD.out; unfold dest at this; omega)
      have hfk := hf k
      generalize tu k = T at *
      generalize f k = y at hy HS hfk
      go_wp2
      go_quiet (fail)
      go_wp2_with fail
      refine (rotl_any y T _ hfk ht).mono ?_
      rintro e w' ⟨rfl, rfl⟩
      rw [hD2.out]
      go_wp2
      go_roundw
      case rel => exact ⟨k + 1, by omega, by go_num, (HS.out _).1, (HS.out _).2.1, (HS.out _).2.2⟩
      case measure => simp [intOf]; omega
    · have hk25 : k = 25 := by omega
      rw [hk25] at hC
      clear hk25
      have HC := hide hC
      have HG := hide hg
      have HR := hide hR
      clear hC hg hR
      go_wp2_with (first
        | (refine wpList_load_row rfl 31 (.tmp 3) rfl (w.heap.size + 1) rfl 31 (arr 25 (rpTo f 25)) (0, 0) _ HC.out Tryd.underlying31 rfl (size31 _) ?_)
        | (refine wpList_store_mid rfl 31 (.tmp 2) (.tmp 35) rfl w.heap.size 0 (arr 25 (rpTo f 25)) rfl rfl (HR.out.there _) (size31 _) (arr_one _ _) ?_))
      have HF := hide (At.setAll (n := 25) (f := fun _ => 0) (g := rpTo f 25) 25 0 wr rfl (HR.out.congr (fun j _ => upTo_zero (rpTo f 25) (fun _ => 0) j)))
      rw [List.drop_zero] at HF
      exact bodyPost_ret (v := .agg (arr 25 (rpTo f 25))) (results_cell_row Tryd.results17 _ _ w.heap.size 31 _ (0, 0) _ rfl HF.out Tryd.underlying31 rfl (size31 _)) rfl ⟨rfl, grown_setAll (.inl (Nat.le_refl _)) _ _ _ HG.out⟩
end Go.Proofs.YtbdkgepidhijlaaDoor
