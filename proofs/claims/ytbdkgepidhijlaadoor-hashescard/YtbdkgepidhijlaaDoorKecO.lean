/-
  OUR OWN: the walk of the law Hashes.
-/
import Derived.Test.YtbdkgepidhijlaaDoorKecN
import Derived.Below
namespace Go.Proofs.YtbdkgepidhijlaaDoor
open Go.RowKit

theorem below_grownN {w w' : World} (h : w.grownBy w' none) : Below w.heap.size w w' :=
  ⟨h.os, h.tape, h.output, h.size, fun k hk => h.block k hk (by simp)⟩

theorem hashes_walk (s : ByteArray) (w : World) (hT : Tabs w) (h2 : 2 ≤ w.heap.size) (hs : s.size ≤ 140737488351232) :
    Calls Tryd.prog 3 #[.string s] w fun e w' => e = .returned (.bool true) ∧ Below w.heap.size w w' := by
  have HT := hide hT
  have HS := hide hs
  have H2 := hide h2
  clear hT hs h2
  go_enter Tryd.func3, Tryd.ntmps3
  go_wp2_with fail
  refine (cHash_any _ _ HT.out H2.out (by decide)).mono ?_
  rintro e w1 ⟨rfl, hg1⟩
  have HG1 := hide hg1
  clear hg1
  go_wp2_with fail
  refine (cHash_any s w1 (HT.out.grownN HG1.out) (by have := HG1.out.size; have := H2.out; omega) (by have := HS.out; omega)).mono ?_
  rintro e w2 ⟨rfl, hg2⟩
  have HG2 := hide hg2
  clear hg2
  go_wp2_with fail
  refine (rHash_any s w2 HS.out).mono ?_
  rintro e w3 ⟨rfl, hb3⟩
  have HB : Hid (Below w.heap.size w w3) := by
    have a := below_grownN HG1.out
    have b := below_grownN HG2.out
    have c := a.trans (b.mono a.size)
    exact c.trans (hb3.mono c.size)
  clear hb3
  rw [hash_empty]
  go_wp2
  all_goals go_ret
  all_goals exact ⟨rfl, HB.out⟩
end Go.Proofs.YtbdkgepidhijlaaDoor
