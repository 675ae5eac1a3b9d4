/-
  OUR OWN: VpQ.
-/
import Derived.Test.YtkegignigkhleaaDoorG32
namespace Go.Proofs.YtkegignigkhleaaDoor
open Go.RowKit
attribute [local go_sem ↓] Go.wp_at_zero Go.wp_at_succ

theorem hashOf_size (s : ByteArray) : (hashOf s).size = 32 := by
  unfold hashOf
  have h : ∀ f, (outL f).length = 32 := fun f => by simp [outL]
  show (List.toArray _).size = 32
  rw [List.size_toArray]; exact h _
theorem root0_size : root0.size = 32 := hashOf_size _
set_option maxHeartbeats 4000000 in
set_option maxRecDepth 20000 in
theorem tVerify_none (key : ByteArray) (ao : Option Addr) (cap : Nat) (ts : List ByteArray) (w : World) (hT : Tb w) (hk : key.size ≤ 64) :
    Calls Tryd.prog 8 #[.string root0, .string key, .slice ao ts.length cap] w fun e w' => e = ansV (if ts = [] then (eB, false, 0) else (eB, false, 13)) ∧ Below w.heap.size w w' := by
  have HR := hide (fun o => rootOfNothing_any (w.alloc o) (hT.keep (below_alloc _ _)))
  have i1 : (key.size : Int) ≤ 64 := by omega
  have i2 : ((root0.size : Int) != 32) = false := by rw [root0_size]; rfl
  have i3 : (root0.toList == root0.toList) = true := by simp
  have HOf := hide (fun W => of_any key W (by omega))
  have HG := hide (fun fv pv W => get_none fv pv W)
  have HZ : Hid ((if ts = [] then (eB, false, (0 : Int)) else (eB, false, 13)) = if ts.length = 0 then (eB, false, 0) else (eB, false, 13)) := by
    show _ = _
    cases ts <;> simp
  rw [HZ.out]
  clear hT HZ
  generalize ts.length = n at *
  generalize root0 = R at *
  go_enter Tryd.func8, Tryd.ntmps8
  go_wp2_with fail
  refine (HR.out _).mono ?_
  rintro e w1 ⟨rfl, hb1⟩
  have hbw1 : Below w.heap.size w w1 := (below_alloc w _).trans (hb1.mono (by simp))
  have htop : w1.heap[w.heap.size]? = some (.cells #[.nilIface, .string R] 49 (0, 0)) := (hb1.block w.heap.size (by simp)).trans (heap_alloc_new w _)
  have z0 : w1.cell? ⟨w.heap.size, 0, none⟩ = some .nilIface := cell_of_row _ _ 0 _ _ (0, 0) htop
  have z1 : w1.cell? ⟨w.heap.size, 1, none⟩ = some (.string R) := cell_of_row _ _ 1 _ _ (0, 0) htop
  have f0 := frozen_of_row _ w.heap.size 0 _ _ htop
  have f1 := frozen_of_row _ w.heap.size 1 _ _ htop
  have HB1 := hide (And.intro hbw1 htop)
  clear hb1 hbw1 htop
  have HXX : Hid (Below w.heap.size w ((w1.setCell ⟨w.heap.size, 0, none⟩ .nilIface).setCell ⟨w.heap.size, 1, none⟩ (.string ⟨#[]⟩)) ∧ ((w1.setCell ⟨w.heap.size, 0, none⟩ .nilIface).setCell ⟨w.heap.size, 1, none⟩ (.string ⟨#[]⟩)).heap[w.heap.size]? = some (.cells #[.nilIface, .string ⟨#[]⟩] 49 (0, 0)) ∧ ((w1.setCell ⟨w.heap.size, 0, none⟩ .nilIface).setCell ⟨w.heap.size, 1, none⟩ (.string ⟨#[]⟩)).heap.size = w1.heap.size) := ⟨belowTwo HB1.out.1 (Nat.le_refl _) _ _, setTwo HB1.out.2 _ _, by simp [World.setCell]⟩
  go_wp2_with fail
  generalize World.setCell (World.setCell w1 _ _) _ _ = X1 at *
  have hlt := (Array.getElem?_eq_some_iff.1 HXX.out.2.1).1
  have hta : ∀ o, (X1.alloc o).heap[w.heap.size]? = some (.cells #[.nilIface, .string ⟨#[]⟩] 49 (0, 0)) := fun o => (Below.heap_alloc _ _ _ hlt).trans HXX.out.2.1
  have y0 : ∀ o, (X1.alloc o).cell? ⟨w.heap.size, 0, none⟩ = some .nilIface := fun o => cell_of_row _ _ 0 _ _ (0, 0) (hta o)
  have y1 : ∀ o, (X1.alloc o).cell? ⟨w.heap.size, 1, none⟩ = some (.string ⟨#[]⟩) := fun o => cell_of_row _ _ 1 _ _ (0, 0) (hta o)
  have HAf : Hid (∀ w2, Below (X1.alloc (.cells #[.slice ao n cap] 51)).drew.heap.size (X1.alloc (.cells #[.slice ao n cap] 51)).drew w2 → w2.cell? ⟨w.heap.size, 0, none⟩ = some .nilIface ∧ w2.cell? ⟨w.heap.size, 1, none⟩ = some (.string ⟨#[]⟩) ∧ w2.cell? ⟨w1.heap.size, 0, none⟩ = some (.slice ao n cap) ∧ Hid (Below w.heap.size w w2)) := fun w2 h2 => by
    have hs : w.heap.size < (X1.alloc (.cells #[.slice ao n cap] 51)).drew.heap.size := by simp only [World.size_alloc, World.size_drew]; omega
    have hb2 := (h2.block _ hs).trans (hta _)
    have hu := (h2.block X1.heap.size (by simp only [World.size_alloc, World.size_drew]; omega)).trans (heap_alloc_new X1 (.cells #[.slice ao n cap] 51))
    rw [HXX.out.2.2] at hu
    refine ⟨cell_of_row _ _ 0 _ _ (0, 0) hb2, cell_of_row _ _ 1 _ _ (0, 0) hb2, cell_of_row _ _ 0 _ _ (0, 0) hu, ?_⟩
    exact (HXX.out.1.alloc HXX.out.1.size _).drew.trans (h2.mono (by simp only [World.size_alloc, World.size_drew]; have := HXX.out.1.size; omega))
  clear hta hlt z0 z1 f0 f1
  go_region_held3 (fun W => W.cell? ⟨w.heap.size, 0, none⟩ = some .nilIface ∧ W.cell? ⟨w.heap.size, 1, none⟩ = some (.string ⟨#[]⟩)) (first | go_keep | (simp [*])) ((first
    | (go_at_call 16; refine (HOf.out _).mono ?_; rintro e w2 ⟨gp, rfl, _, hb2⟩; obtain ⟨d0, d1, _, _⟩ := HAf.out w2 hb2; (have HO2 := hide hb2); clear hb2)
    | (go_at_call 14; refine (HG.out _ _ w2).mono ?_; rintro e w3 ⟨rfl, hb3⟩; obtain ⟨c0, c1, l0, HBW3⟩ := HAf.out w3 (HO2.out.trans (hb3.mono HO2.out.size)); clear hb3)))
  all_goals
    by_cases hn : n = 0
    · subst hn
      go_wp2_with fail
      refine (clone_any ⟨#[]⟩ _ (by decide)).mono ?_
      rintro e w4 ⟨rfl, hb4⟩
      go_wp2
      refine bodyPost_ret (v := .tuple #[.string ⟨#[]⟩, .bool false, .int .i64 0]) (by simp [results, Tryd.results8, go_sem]) rfl ⟨by first | rfl | (rw [if_pos rfl]; rfl), ?_⟩
      exact HBW3.out.trans (hb4.mono (by first | exact HBW3.out.size | exact HBW3.out.drew.size))
    · have j1 : (0 : Int) < (n : Int) := by omega
      go_wp2
      refine bodyPost_ret (v := .tuple #[.string ⟨#[]⟩, .bool false, .int .i64 13]) (by simp [results, Tryd.results8, go_sem]) rfl ⟨by first | rfl | (rw [if_neg hn]; rfl), ?_⟩
      first | exact HBW3.out | exact HBW3.out.drew
/-- what the program's Verify answers -/
theorem tVerify_any (root key : ByteArray) (ao : Option Addr) (cap M : Nat) (ts : List ByteArray) (w : World) (hT : Tb w) (htx : Txts w ao ts) (hc : ts.length ≤ cap) (hts : ∀ t ∈ ts, t.size ≤ M) (hM : M ≤ 9223372036854775000) :
    Calls Tryd.prog 8 #[.string root, .string key, .slice ao ts.length cap] w fun e w' => e = ansV (verV hashOf root0 root key (nibs key.data.toList) ts) ∧ Below w.heap.size w w' := by
  unfold verV
  by_cases hk : 64 < key.size
  · rw [if_pos hk]
    exact tVerify_key root key _ w hk
  · rw [if_neg hk]
    by_cases h0 : root = root0
    · rw [if_pos h0, h0]
      exact tVerify_none key ao cap ts w hT (by omega)
    · rw [if_neg h0]
      by_cases hr : root.size = 32
      · exact tVerify_hash root key ao cap M ts w hT (by omega) hr h0 htx hc hts hM
      · have hno : goV hashOf ts root 0 false false (nibs key.data.toList) = none := by
          cases ts with
          | nil => rfl
          | cons t r =>
            rw [goV, if_pos (.inl fun e => hr (by rw [← e, hashOf_size]))]
        rw [hno]
        exact tVerify_root root key _ w (by omega) hr
set_option maxHeartbeats 1000000 in
set_option maxRecDepth 20000 in
theorem cVerify_any (root key : ByteArray) (ao : Option Addr) (cap M : Nat) (ts : List ByteArray) (w : World) (hT : Tb w) (htx : Txts w ao ts) (hc : ts.length ≤ cap) (hts : ∀ t ∈ ts, t.size ≤ M) (hM : M ≤ 9223372036854775000) :
    Calls Tryd.prog 4 #[.string root, .string key, .slice ao ts.length cap] w fun e w' => e = ansV (verV hashOf root0 root key (nibs key.data.toList) ts) ∧ Below w.heap.size w w' := by
  have HV := hide (tVerify_any root key ao cap M ts w hT htx hc hts hM)
  clear hT htx hc hts hM
  unfold ansV at *
  generalize verV hashOf root0 root key (nibs key.data.toList) ts = r at *
  go_enter Tryd.func4, Tryd.ntmps4
  go_wp2_with fail
  refine HV.out.mono ?_
  rintro e w1 ⟨rfl, hb⟩
  go_wp2
  refine bodyPost_ret (v := .tuple #[.string r.1, .bool r.2.1, .int .i64 r.2.2]) (by simp [results, Tryd.results4, go_sem]) rfl ⟨rfl, hb⟩
end Go.Proofs.YtkegignigkhleaaDoor
