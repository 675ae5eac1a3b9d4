/-
  OUR OWN: VxPathH VxPathI.
-/
import Derived.Test.YthdjmldddjljfaaGreatDoorG11
import Derived.Test.YthdjmldddjljfaaGreatDoorG05
namespace Go.Proofs.YthdjmldddjljfaaGreatDoor.V
open Go.RowKit
attribute [local go_sem ↓] Go.wp_at_zero Go.wp_at_succ

section
variable {P : Program} (w : World)
theorem run_append_roomy (base : Nat) (t ty e : TypeId) (i : TypeInfo) (z : Value) (size bytes : Nat) (ht : P.underlying t = some (.slice e)) (hi : P.info? e = some i) (hz : i.zero = some z)
    (hsize : i.size = size) (hby : i.bytes = bytes) (hzs : z.cells.size = size) (hsz : 0 < size)
    (g0 n cap0 : Nat) (xs : List Value) (hown : w.ownsRow base e size (.slice (some ⟨g0, 0, none⟩) n cap0) n xs)
    (ad : Addr) (m c : Nat) (news : List Value) (hl : news.length = m * size) (hnews : ∀ j u, news[j]? = some u → w.cell? (ad.add j) = some u) (h1 : ∀ u ∈ news, u.oneCell' = true)
    (h63 : n + m ≤ maxLen) (hbytes : (n + m) * bytes ≤ 140737488355328) (hbase : base ≤ w.heap.size) (hroom : n + m ≤ cap0) :
    ∃ w', (Builtin.append_ #[t, t] ty #[.slice (some ⟨g0, 0, none⟩) n cap0, .slice (some ad) m c]).run P w = .ok (.slice (some ⟨g0, 0, none⟩) (n + m) cap0) w' ∧
      w'.ownsRow base e size (.slice (some ⟨g0, 0, none⟩) (n + m) cap0) (n + m) (xs ++ news) ∧ w.grownBy w' (some g0) := by
  obtain ⟨v', w', hr, h2, h3, _, _⟩ := run_append_own_at (P := P) w base t ty e i z size bytes ht hi hz hsize hby hzs hsz _ n xs hown ad m c news hl hnews h1 h63 hbytes hbase
  rcases hown.2 with ⟨h, _⟩ | ⟨g, cap, cur, h, hb0, hg0, hn0, hc0, hs0, ht0⟩
  · cases h
  · obtain ⟨rfl, rfl⟩ : g0 = g ∧ cap0 = cap := by simpa using h
    subst hsize
    subst hby
    have hr2 := run_append_room (P := P) w t ty e i ht hi g0 n cap0 cur hg0 ad m c news hl hnews h1 hroom (by rw [hl, hs0, ← Nat.add_mul]; exact Nat.mul_le_mul_right _ hroom)
    rw [hr2] at hr
    injection hr with hv hw
    subst hv
    subst hw
    exact ⟨_, hr2, h2, h3⟩
theorem step_append_run {ops : Array Oper} {o : Oper} {a : Act} {K : Act → World → Prop} {Q : Exit → Act → World → Prop} {E : Prop} (hgd : o.guard = none) (s x : Operand) (t : TypeId)
    (ho : o.op = .call { callee := .builtin .append, args := #[s, x], argTypes := #[t, t] }) (v sv v' : Value) (w' : World) (hs : a.eval s = v) (hx : a.eval x = sv)
    (hr : (Builtin.append_ #[t, t] o.type #[v, sv]).run P w = .ok v' w') (h : K (a.put o.dst v') w') :
    if Region.wanted o (yielded ops a.tmps) = true then Oper.wp P o a w K Q else E := by
  have hw : Region.wanted o (yielded ops a.tmps) = true := by simp [Region.wanted, hgd]
  rw [if_pos hw]
  unfold Oper.wp
  simp only [execOp, ho, resolve, invoke, builtin, Sem.run_bind, Sem.run_pure, Result.andThen_ok, List.map_toArray, List.map_cons, List.map_nil, hs, hx, hr]
  exact h
end

set_option maxRecDepth 100000 in
set_option maxHeartbeats 800000 in
theorem of_any (s : ByteArray) (w : World) (h : s.size ≤ 1000) :
    Calls Tryz.prog 44 #[.string s] w fun e w' => ∃ g, e = .returned (.slice (some ⟨g, 0, none⟩) (2 * s.size) (2 * s.size)) ∧ w'.ownsRow w.heap.size 3 1 (.slice (some ⟨g, 0, none⟩) (2 * s.size) (2 * s.size)) (2 * s.size) ((nibs s.data.toList).map (Value.int .i64)) ∧ Below w.heap.size w w' := by
  obtain ⟨i0, hi, hz0, hz1, hz2⟩ := info_parts info3
  obtain ⟨n, M, hn, hM, hmk⟩ : ∃ (n : Nat) (M : Array Value), Hid (n = 2 * s.size) ∧ Hid (M.size = n * 1) ∧ ∀ w : World, (Instr.makeSlice 80 (.int .i64 0) (.int .i64 (2 * (s.size : Int)))).run Tryz.prog w =
    .ok (.slice (some ⟨w.heap.size, 0, none⟩) 0 n) (w.alloc (.cells M 3)) := ⟨2 * s.size, madeCells #[.int .i64 0] (2 * s.size), rfl, by simp [Hid, madeCells], fun w => by have := make_ints0 (2 * s.size) (by omega) w; simpa using this⟩
  have hown0 := hide (World.ownsRow_made (base := w.heap.size) (e := 3) (size := 1) w M n (Nat.le_refl _) (by unfold maxLen; rw [hn.out]; omega) hM.out)
  have hI : (s.size : Int) ≤ 1000 := by omega
  go_enter Tryz.func44, Tryz.ntmps44
  go_wp2
  go_loopw [3, 11] (fun v i wr => ∃ k : Nat, k ≤ s.size ∧ i = .int .i64 (k : Int) ∧ v = .slice (some ⟨w.heap.size, 0, none⟩) (2 * k) n ∧ wr.ownsRow w.heap.size 3 1 (.slice (some ⟨w.heap.size, 0, none⟩) (2 * k) n) (2 * k) ((nibs (s.data.toList.take k)).map (Value.int .i64)) ∧ Below w.heap.size w wr) (fun _ i _ => s.size - (intOf i).toNat)
  case atStart => exact ⟨0, Nat.zero_le _, rfl, rfl, hown0.out, below_alloc _ _⟩
  case round =>
    obtain ⟨k, hk, rfl, rfl, hown, hbw⟩ := hrel
    by_cases hlt : k < s.size
    · have HS := hide (nibs_snoc s k hlt)
      have hb1 : (0 : Int) ≤ (s[k].toNat : Int) := by omega
      have hb2 : (s[k].toNat : Int) < 256 := by have := s[k].toNat_lt; omega
      have hbt2 := and15 s[k]
      have HOW := hide hown
      have HBW := hide hbw
      clear hown hbw
      have b0 : (0 : Int) ≤ (k : Int) := by omega
      have b1 : (k : Int) < (s.size : Int) := by omega
      have k2 : IntKind.i64.wrap ((s[k].toNat : Int) / 16) = (s[k].toNat : Int) / 16 := by rw [IntKind.wrap_i64]; omega
      have k3 : IntKind.i64.wrap ((s[k].toNat : Int) % 16) = (s[k].toNat : Int) % 16 := by rw [IntKind.wrap_i64]; omega
      have hroom : 2 * k + 2 ≤ n := by rw [hn.out]; omega
      obtain ⟨w3, hr3, ho3, hg3⟩ := run_append_roomy (P := Tryz.prog) ((wr.alloc (.cells #[.int .i64 ((s[k].toNat : Int) / 16), .int .i64 ((s[k].toNat : Int) % 16)] 3)).drew) w.heap.size 80 80 3 i0 _ 1 8 Tryz.underlying80 hi hz0 hz1 hz2 rfl (by omega) w.heap.size (2 * k) n _ ((HOW.out.alloc _).drew)
        ⟨wr.heap.size, 0, none⟩ 2 2 [.int .i64 ((s[k].toNat : Int) / 16), .int .i64 ((s[k].toNat : Int) % 16)] (by rfl) (World.news_of_block (cs := #[.int .i64 ((s[k].toNat : Int) / 16), .int .i64 ((s[k].toNat : Int) % 16)]) (t := 3) (fr := (0, 0)) (heap_alloc_new wr _)) (by simp [Value.oneCell']) (by unfold maxLen; omega) (by omega) (by have := HBW.out.size; simp; omega) hroom
      rw [← HS.out] at ho3
      have HO3 := hide ho3
      have HB3 : Hid (Below w.heap.size w w3) := ((HBW.out.alloc HBW.out.size _).drew).grown hg3 (by have := HBW.out.size; simp; omega) (row_ge (n := 0) (c := 0) (Nat.le_refl w.heap.size))
      have HR3 := hide hr3
      clear ho3 hg3 hr3
      go_wp2
      go_region_held3 (fun _ => True) (first | trivial | go_keep)
        ((refine step_append_run _ (by rfl) _ _ _ (by rfl) _ _ _ w3 (by rfl) (by rfl) HR3.out ?_))
      all_goals
        go_wp2
        go_roundw
        case rel => exact ⟨k + 1, by omega, by go_num, rfl, HO3.out, HB3.out⟩
        case measure => simp [intOf]; omega
    · have hke : k = s.size := by omega
      subst hke
      rw [List.take_of_length_le (by rw [Array.length_toList]; exact Nat.le_refl _)] at hown
      have hn2 := hn.out
      subst hn2
      have HF := hide hown
      have HBW := hide hbw
      clear hown hbw
      go_wp2
      go_ret
      exact ⟨w.heap.size, rfl, HF.out, HBW.out⟩

/-- numbers from a place on in a block -/
def FullRow (w : World) (g o : Nat) (p : List Int) : Prop := ∃ cur, w.heap[g]? = some (.cells cur 3 (0, 0)) ∧ o + p.length ≤ cur.size ∧ ∀ j, j < p.length → cur[o + j]? = some (.int .i64 (p.getD j 0))
theorem fullRow_of {w : World} {base g n c : Nat} {xs p : List Int} {o : Nat} (h : w.ownsRow base 3 1 (.slice (some ⟨g, 0, none⟩) n c) n (xs.map (Value.int .i64))) (hd : xs.drop o = p) (ho : o ≤ xs.length) : FullRow w g o p := by
  have hx : xs.length = n := by have := h.1; simpa using this
  rcases h.2 with ⟨h', _⟩ | ⟨g', c', cur, h', _, hg, hn, _, hs, ht⟩
  · cases h'
  · obtain ⟨rfl, rfl⟩ : g = g' ∧ c = c' := by simpa using h'
    have hpl : p.length = n - o := by rw [← hd, List.length_drop]; omega
    refine ⟨cur, hg, by omega, fun j hj => ?_⟩
    have hj2 : o + j < n := by omega
    have e1 : (cur.toList.take (n * 1))[o + j]? = (xs.map (Value.int .i64))[o + j]? := by rw [ht]
    rw [List.getElem?_take, if_pos (by omega)] at e1
    rw [Array.getElem?_toList] at e1
    rw [e1, ← hd]
    simp [List.getD_eq_getElem?_getD, hx, hj2]
theorem FullRow.ints {w : World} {g o : Nat} {p : List Int} (h : FullRow w g o p) : Ints w (some ⟨g, o, none⟩) p := by
  obtain ⟨cur, h1, _, h3⟩ := h
  refine .inr ⟨g, o, rfl, fun j hj => ?_⟩
  rw [cell_of_row w g (o + j) _ _ (0, 0) h1]
  exact h3 j hj
theorem FullRow.keep {w w' : World} {g o : Nat} {p : List Int} (h : FullRow w g o p) (hb : w'.heap[g]? = w.heap[g]?) : FullRow w' g o p := by
  obtain ⟨cur, h1, h2⟩ := h
  exact ⟨cur, by rw [hb]; exact h1, h2⟩
theorem FullRow.lt {w : World} {g o : Nat} {p : List Int} (h : FullRow w g o p) : g < w.heap.size := by
  obtain ⟨cur, h1, _⟩ := h
  exact (Array.getElem?_eq_some_iff.1 h1).1

theorem nibs_drop1 {l : List UInt8} {b : UInt8} {r : List UInt8} (h : l = b :: r) : (nibs l).drop 1 = ((b.toNat : Int) % 16) :: nibs r := by subst h; rfl
theorem nibs_drop2 {l : List UInt8} {b : UInt8} {r : List UInt8} (h : l = b :: r) : (nibs l).drop 2 = nibs r := by subst h; rfl
theorem nibs_none (w : World) (g : Nat) {cur : Array Value} (h : w.heap[g]? = some (.cells cur 3 (0, 0))) : FullRow w g 0 [] := ⟨cur, h, by simp, fun j hj => by simp at hj⟩

set_option maxRecDepth 100000 in
set_option maxHeartbeats 800000 in
theorem pUnpack_g0 (s : ByteArray) (w : World) (h0 : 0 < s.size) (h : s.size ≤ 65) (hm : (s[0].toNat : Int) / 16 = 0) (hx : (s[0].toNat : Int) % 16 = 0) (p : List Int) (hp : (nibs s.data.toList).drop 2 = p) :
    Calls Tryz.prog 175 #[.string s] w fun e w' => ∃ g o, e = .returned (.tuple #[.slice (some ⟨g, o, none⟩) p.length p.length, .bool false, .int .i64 0]) ∧ FullRow w' g o p ∧ w.heap.size ≤ g ∧ Below w.heap.size w w' := by
  have hne := ne_empty h0
  have hb2 : (s[0].toNat : Int) < 256 := by have := s[0].toNat_lt; omega
  have hbt := and15 s[0]
  rw [hx] at hbt
  clear hx
  have p1 : bits BinOp.and IntKind.i64 0 1 = 0 := by decide +kernel
  have p2 : bits BinOp.and IntKind.i64 0 2 = 0 := by decide +kernel
  have hnl : (nibs s.data.toList).length = 2 * s.size := by rw [nibs_length, ← Lib.size_eq]
  have hpl : p.length = 2 * s.size - 2 := by rw [← hp, List.length_drop, hnl]
  have c1 : (2 : Int) ≤ 2 * (s.size : Int) := by omega
  have HP := hide hp
  clear hp
  by_cases hs1 : s.size = 1
  · have e2 : 2 * s.size = 2 := by omega
    obtain rfl : p = [] := List.length_eq_zero_iff.1 (by omega)
    go_enter Tryz.func175, Tryz.ntmps175
    go_wp2
    go_quiet (fail)
    go_wp2_with fail
    refine (of_any s _ (by omega)).mono ?_
    rintro e w1 ⟨g, rfl, ho, hb⟩
    rw [e2] at ho ⊢
    have HF : Hid (FullRow w1 g 0 []) := by
      rcases ho.2 with ⟨h', _⟩ | ⟨g', c', cur, h', _, hg, _⟩
      · cases h'
      · obtain ⟨rfl, _⟩ : g = g' ∧ _ := by simpa using h'
        exact nibs_none w1 g hg
    have HB := hide hb
    have HG : Hid (w.heap.size ≤ g) := (ho.lt g rfl).1
    clear ho hb
    go_wp2
    go_ret3
    exact ⟨g, 0, rfl, HF.out, HG.out, (below_drewN (Below.refl _ w) _).trans HB.out⟩
  · have hne1 : ¬ 2 * s.size = 2 := by omega
    go_enter Tryz.func175, Tryz.ntmps175
    go_wp2
    go_quiet (fail)
    go_wp2_with fail
    refine (of_any s _ (by omega)).mono ?_
    rintro e w1 ⟨g, rfl, ho, hb⟩
    have HO := hide ho
    have HB := hide hb
    have HG : Hid (w.heap.size ≤ g) := (ho.lt g rfl).1
    clear ho hb
    go_wp2
    go_ret3
    exact ⟨g, 2, by rw [hpl]; rfl, fullRow_of HO.out HP.out (by omega), HG.out, (below_drewN (Below.refl _ w) _).trans HB.out⟩

set_option maxRecDepth 100000 in
set_option maxHeartbeats 800000 in
theorem pUnpack_g1 (s : ByteArray) (w : World) (h0 : 0 < s.size) (h : s.size ≤ 64) (x : Int) (hm : (s[0].toNat : Int) / 16 = 1) (hx : (s[0].toNat : Int) % 16 = x) (p : List Int) (hp : (nibs s.data.toList).drop 1 = p) :
    Calls Tryz.prog 175 #[.string s] w fun e w' => ∃ g o, e = .returned (.tuple #[.slice (some ⟨g, o, none⟩) p.length p.length, .bool false, .int .i64 0]) ∧ FullRow w' g o p ∧ w.heap.size ≤ g ∧ Below w.heap.size w w' := by
  have hne := ne_empty h0
  have hb2 : (s[0].toNat : Int) < 256 := by have := s[0].toNat_lt; omega
  have hbt := and15 s[0]
  rw [hx] at hbt
  have x1 : 0 ≤ x := by omega
  have x2 : x ≤ 15 := by omega
  clear hx
  have p1 : bits BinOp.and IntKind.i64 1 1 = 1 := by decide +kernel
  have p2 : bits BinOp.and IntKind.i64 1 2 = 0 := by decide +kernel
  have hnl : (nibs s.data.toList).length = 2 * s.size := by rw [nibs_length, ← Lib.size_eq]
  have hpl : p.length = 2 * s.size - 1 := by rw [← hp, List.length_drop, hnl]
  have hne1 : ¬ 2 * s.size = 1 := by omega
  have c1 : (1 : Int) ≤ 2 * (s.size : Int) := by omega
  have HP := hide hp
  clear hp
  go_enter Tryz.func175, Tryz.ntmps175
  go_wp2
  go_quiet (fail)
  go_wp2_with fail
  refine (of_any s _ (by omega)).mono ?_
  rintro e w1 ⟨g, rfl, ho, hb⟩
  have HO := hide ho
  have HB := hide hb
  have HG : Hid (w.heap.size ≤ g) := (ho.lt g rfl).1
  clear ho hb
  go_wp2
  go_ret3
  exact ⟨g, 1, by rw [hpl]; rfl, fullRow_of HO.out HP.out (by omega), HG.out, (below_drewN (Below.refl _ w) _).trans HB.out⟩

set_option maxRecDepth 100000 in
set_option maxHeartbeats 800000 in
theorem pUnpack_g2 (s : ByteArray) (w : World) (h0 : 0 < s.size) (h : s.size ≤ 65) (hm : (s[0].toNat : Int) / 16 = 2) (hx : (s[0].toNat : Int) % 16 = 0) (p : List Int) (hp : (nibs s.data.toList).drop 2 = p) :
    Calls Tryz.prog 175 #[.string s] w fun e w' => ∃ g o, e = .returned (.tuple #[.slice (some ⟨g, o, none⟩) p.length p.length, .bool true, .int .i64 0]) ∧ FullRow w' g o p ∧ w.heap.size ≤ g ∧ Below w.heap.size w w' := by
  have hne := ne_empty h0
  have hb2 : (s[0].toNat : Int) < 256 := by have := s[0].toNat_lt; omega
  have hbt := and15 s[0]
  rw [hx] at hbt
  clear hx
  have p1 : bits BinOp.and IntKind.i64 2 1 = 0 := by decide +kernel
  have p2 : bits BinOp.and IntKind.i64 2 2 = 2 := by decide +kernel
  have hnl : (nibs s.data.toList).length = 2 * s.size := by rw [nibs_length, ← Lib.size_eq]
  have hpl : p.length = 2 * s.size - 2 := by rw [← hp, List.length_drop, hnl]
  have c1 : (2 : Int) ≤ 2 * (s.size : Int) := by omega
  have HP := hide hp
  clear hp
  by_cases hs1 : s.size = 1
  · have e2 : 2 * s.size = 2 := by omega
    obtain rfl : p = [] := List.length_eq_zero_iff.1 (by omega)
    go_enter Tryz.func175, Tryz.ntmps175
    go_wp2
    go_quiet (fail)
    go_wp2_with fail
    refine (of_any s _ (by omega)).mono ?_
    rintro e w1 ⟨g, rfl, ho, hb⟩
    rw [e2] at ho ⊢
    have HF : Hid (FullRow w1 g 0 []) := by
      rcases ho.2 with ⟨h', _⟩ | ⟨g', c', cur, h', _, hg, _⟩
      · cases h'
      · obtain ⟨rfl, _⟩ : g = g' ∧ _ := by simpa using h'
        exact nibs_none w1 g hg
    have HB := hide hb
    have HG : Hid (w.heap.size ≤ g) := (ho.lt g rfl).1
    clear ho hb
    go_wp2
    go_ret3
    exact ⟨g, 0, rfl, HF.out, HG.out, (below_drewN (Below.refl _ w) _).trans HB.out⟩
  · have hne1 : ¬ 2 * s.size = 2 := by omega
    go_enter Tryz.func175, Tryz.ntmps175
    go_wp2
    go_quiet (fail)
    go_wp2_with fail
    refine (of_any s _ (by omega)).mono ?_
    rintro e w1 ⟨g, rfl, ho, hb⟩
    have HO := hide ho
    have HB := hide hb
    have HG : Hid (w.heap.size ≤ g) := (ho.lt g rfl).1
    clear ho hb
    go_wp2
    go_ret3
    exact ⟨g, 2, by rw [hpl]; rfl, fullRow_of HO.out HP.out (by omega), HG.out, (below_drewN (Below.refl _ w) _).trans HB.out⟩

set_option maxRecDepth 100000 in
set_option maxHeartbeats 800000 in
theorem pUnpack_g3 (s : ByteArray) (w : World) (h0 : 0 < s.size) (h : s.size ≤ 64) (x : Int) (hm : (s[0].toNat : Int) / 16 = 3) (hx : (s[0].toNat : Int) % 16 = x) (p : List Int) (hp : (nibs s.data.toList).drop 1 = p) :
    Calls Tryz.prog 175 #[.string s] w fun e w' => ∃ g o, e = .returned (.tuple #[.slice (some ⟨g, o, none⟩) p.length p.length, .bool true, .int .i64 0]) ∧ FullRow w' g o p ∧ w.heap.size ≤ g ∧ Below w.heap.size w w' := by
  have hne := ne_empty h0
  have hb2 : (s[0].toNat : Int) < 256 := by have := s[0].toNat_lt; omega
  have hbt := and15 s[0]
  rw [hx] at hbt
  have x1 : 0 ≤ x := by omega
  have x2 : x ≤ 15 := by omega
  clear hx
  have p1 : bits BinOp.and IntKind.i64 3 1 = 1 := by decide +kernel
  have p2 : bits BinOp.and IntKind.i64 3 2 = 2 := by decide +kernel
  have hnl : (nibs s.data.toList).length = 2 * s.size := by rw [nibs_length, ← Lib.size_eq]
  have hpl : p.length = 2 * s.size - 1 := by rw [← hp, List.length_drop, hnl]
  have hne1 : ¬ 2 * s.size = 1 := by omega
  have c1 : (1 : Int) ≤ 2 * (s.size : Int) := by omega
  have HP := hide hp
  clear hp
  go_enter Tryz.func175, Tryz.ntmps175
  go_wp2
  go_quiet (fail)
  go_wp2_with fail
  refine (of_any s _ (by omega)).mono ?_
  rintro e w1 ⟨g, rfl, ho, hb⟩
  have HO := hide ho
  have HB := hide hb
  have HG : Hid (w.heap.size ≤ g) := (ho.lt g rfl).1
  clear ho hb
  go_wp2
  go_ret3
  exact ⟨g, 1, by rw [hpl]; rfl, fullRow_of HO.out HP.out (by omega), HG.out, (below_drewN (Below.refl _ w) _).trans HB.out⟩

end Go.Proofs.YthdjmldddjljfaaGreatDoor.V
namespace Go.Proofs.YthdjmldddjljfaaGreatDoor.V
open Go.RowKit

/-- the path and the mark that bytes are the code of -/
def unpL : List UInt8 → Option (List Int × Bool)
  | [] => none
  | b :: r => if b.toNat / 16 % 2 = 1 then (if b.toNat / 16 ≤ 3 ∧ r.length ≤ 63 then some (((b.toNat : Int) % 16) :: nibs r, decide (2 ≤ b.toNat / 16)) else none)
    else (if b.toNat / 16 ≤ 3 ∧ b.toNat % 16 = 0 ∧ r.length ≤ 64 then some (nibs r, decide (2 ≤ b.toNat / 16)) else none)

theorem nibs_nib (l : List UInt8) : (nibs l).all nib = true := by
  induction l with
  | nil => rfl
  | cons b r ih =>
    have := b.toNat_lt
    simp only [nibs, List.all_cons, ih, nib, Bool.and_true, Bool.and_eq_true, decide_eq_true_eq]
    omega
theorem bytes_nibs (l : List UInt8) : (pairUp (nibs l)).map (fun n => UInt8.ofNat n.toNat) = l := by
  induction l with
  | nil => rfl
  | cons b r ih =>
    simp only [nibs, pairUp, List.map_cons, ih]
    congr 1
    have : (16 * ((b.toNat : Int) / 16) + (b.toNat : Int) % 16).toNat = b.toNat := by omega
    rw [this]; simp
theorem code_odd (b : UInt8) (r : List UInt8) (leaf : Bool) (hx : r.length ≤ 63) : packR leaf (((b.toNat : Int) % 16) :: nibs r) = (⟨(UInt8.ofNat (16 * (mk leaf + 1) + (b.toNat : Int) % 16).toNat :: r).toArray⟩, 0) := by
  have hl := nibs_length r
  have hp : isP (((b.toNat : Int) % 16) :: nibs r) = true := by
    have := nibs_nib r
    simp only [isP, List.all_cons, this, nib, Bool.and_true, Bool.and_eq_true, decide_eq_true_eq, List.length_cons, hl]
    omega
  rw [packR_good hp]
  unfold codeOf
  rw [halvesOf_odd (by simp [hl])]
  simp only [pairUp, strOfNums, List.map_cons, bytes_nibs]
theorem code_even (r : List UInt8) (leaf : Bool) (hx : r.length ≤ 64) : packR leaf (nibs r) = (⟨(UInt8.ofNat (16 * mk leaf).toNat :: r).toArray⟩, 0) := by
  have hl := nibs_length r
  have hp : isP (nibs r) = true := by
    have := nibs_nib r
    simp only [isP, this, Bool.and_true, decide_eq_true_eq, hl]
    omega
  rw [packR_good hp]
  unfold codeOf
  rw [halvesOf_even (by omega)]
  simp only [pairUp, strOfNums, List.map_cons, bytes_nibs, Int.add_zero]
theorem pack_far (leaf : Bool) (zs : List Int) (h : 128 < zs.length) : packR leaf zs = (⟨#[]⟩, 7) := packR_bad (isP_long h)

theorem size_cons {s : ByteArray} {b : UInt8} {r : List UInt8} (h : s.data.toList = b :: r) : s.size = r.length + 1 := by
  rw [Lib.size_eq, h]; rfl
theorem get_cons {s : ByteArray} {b : UInt8} {r : List UInt8} (h : s.data.toList = b :: r) (h0 : 0 < s.size) : s[0] = b := by
  have : s.data.toList[0]'(by rw [h]; simp) = b := by simp [h]
  rw [← this]; rfl
theorem str_of_cons {s : ByteArray} {b : UInt8} {r : List UInt8} (h : s.data.toList = b :: r) : s = ⟨(b :: r).toArray⟩ := by
  cases s with
  | mk d => simp at h; rw [← h]
theorem str_cons_inj {b b' : UInt8} {r r' : List UInt8} (h : (⟨(b :: r).toArray⟩ : ByteArray) = ⟨(b' :: r').toArray⟩) : b = b' := by
  simp at h; exact h.1
theorem str_nil {s : ByteArray} (h : s.data.toList = []) : s = ⟨#[]⟩ := by
  cases s with
  | mk d => simp at h; rw [h]

theorem ofNat_eq {b : UInt8} {n : Nat} (hn : n < 256) (h : UInt8.ofNat n = b) : n = b.toNat := by
  rw [← h]; simp; omega

theorem rUnpack_full (s : ByteArray) (w : World) (hs : s.size ≤ 1900000) (p : List Int) (lf : Bool) (hu : unpL s.data.toList = some (p, lf)) :
    Calls Tryz.prog 133 #[.string s] w fun e w' => ∃ ao cap, e = .returned (.tuple #[.slice ao p.length cap, .bool lf, .int .i64 0]) ∧ Ints w' ao p ∧ ((∀ a, ao = some a → w.heap.size ≤ a.block) ∧ (ao = none → cap = 0)) ∧ Below w.heap.size w w' := by
  cases hl : s.data.toList with
  | nil => rw [hl] at hu; simp [unpL] at hu
  | cons b r =>
    rw [hl] at hu
    have hsz := size_cons hl
    have hsr := str_of_cons hl
    have hb := b.toNat_lt
    simp only [unpL] at hu
    by_cases ho : b.toNat / 16 % 2 = 1
    · rw [if_pos ho] at hu
      by_cases hc : b.toNat / 16 ≤ 3 ∧ r.length ≤ 63
      · rw [if_pos hc] at hu
        simp only [Option.some.injEq, Prod.mk.injEq] at hu
        obtain ⟨rfl, rfl⟩ := hu
        have hn : nibs s.data.toList = ((b.toNat : Int) / 16) :: (((b.toNat : Int) % 16) :: nibs r) := by rw [hl]; rfl
        by_cases h2 : 2 ≤ b.toNat / 16
        · have hd : decide (2 ≤ b.toNat / 16) = true := by simp [h2]
          rw [hd]
          refine rUnpack_olk s w r.length hsz (by omega) _ _ hn (by simp; omega) (by omega) (by omega) ?_
          rw [code_odd b r true hc.2, hsr]
          have : (16 * (mk true + 1) + (b.toNat : Int) % 16).toNat = b.toNat := by simp only [mk]; simp; omega
          rw [this]; simp
        · have hd : decide (2 ≤ b.toNat / 16) = false := by simp [h2]
          rw [hd]
          refine rUnpack_onk s w r.length hsz (by omega) _ _ hn (by simp; omega) (by omega) (by omega) (by omega) ?_
          rw [code_odd b r false hc.2, hsr]
          have : (16 * (mk false + 1) + (b.toNat : Int) % 16).toNat = b.toNat := by simp only [mk]; simp; omega
          rw [this]; simp
      · rw [if_neg hc] at hu; cases hu
    · rw [if_neg ho] at hu
      by_cases hc : b.toNat / 16 ≤ 3 ∧ b.toNat % 16 = 0 ∧ r.length ≤ 64
      · rw [if_pos hc] at hu
        simp only [Option.some.injEq, Prod.mk.injEq] at hu
        obtain ⟨rfl, rfl⟩ := hu
        have hn : nibs s.data.toList = ((b.toNat : Int) / 16) :: ((b.toNat : Int) % 16) :: nibs r := by rw [hl]; rfl
        by_cases h2 : 2 ≤ b.toNat / 16
        · have hd : decide (2 ≤ b.toNat / 16) = true := by simp [h2]
          rw [hd]
          refine rUnpack_elk s w r.length hsz (by omega) _ _ _ hn (by simp; omega) (by omega) (by omega) ?_
          rw [code_even r true hc.2.2, hsr]
          have : (16 * mk true).toNat = b.toNat := by simp only [mk]; simp; omega
          rw [this]; simp
        · have hd : decide (2 ≤ b.toNat / 16) = false := by simp [h2]
          rw [hd]
          refine rUnpack_enk s w r.length hsz (by omega) _ _ _ hn (by simp; omega) (by omega) (by omega) (by omega) ?_
          rw [code_even r false hc.2.2, hsr]
          have : (16 * mk false).toNat = b.toNat := by simp only [mk]; simp; omega
          rw [this]; simp
      · rw [if_neg hc] at hu; cases hu

theorem rUnpack_some (s : ByteArray) (w : World) (hs : s.size ≤ 1900000) (p : List Int) (lf : Bool) (hu : unpL s.data.toList = some (p, lf)) :
    Calls Tryz.prog 133 #[.string s] w fun e w' => ∃ ao cap, e = .returned (.tuple #[.slice ao p.length cap, .bool lf, .int .i64 0]) ∧ Ints w' ao p ∧ (∀ a, ao = some a → w.heap.size ≤ a.block) ∧ Below w.heap.size w w' := by
  refine (rUnpack_full s w hs p lf hu).mono ?_
  rintro e w' ⟨ao, cap, h1, h2, h3, h4⟩
  exact ⟨ao, cap, h1, h2, h3.1, h4⟩
theorem empty_ne {s : ByteArray} {n : Int} (h : n ≠ 0) : ¬ ((⟨#[]⟩ : ByteArray), n) = (s, 0) := by
  intro e; simp at e; exact h e.2

theorem rUnpack_none (s : ByteArray) (w : World) (hs : s.size ≤ 1900000) (hu : unpL s.data.toList = none) :
    Calls Tryz.prog 133 #[.string s] w fun e w' => e = .returned (.tuple #[.slice none 0 0, .bool false, .int .i64 7]) ∧ Below w.heap.size w w' := by
  cases hl : s.data.toList with
  | nil => rw [str_nil hl]; exact rUnpack_nil w
  | cons b r =>
    rw [hl] at hu
    have hsz := size_cons hl
    have hsr := str_of_cons hl
    have hb := b.toNat_lt
    have hln := nibs_length r
    simp only [unpL] at hu
    by_cases ho : b.toNat / 16 % 2 = 1
    · rw [if_pos ho] at hu
      have hc : ¬ (b.toNat / 16 ≤ 3 ∧ r.length ≤ 63) := fun hc => by rw [if_pos hc] at hu; cases hu
      have hn : nibs s.data.toList = ((b.toNat : Int) / 16) :: (((b.toNat : Int) % 16) :: nibs r) := by rw [hl]; rfl
      have hbad : ∀ leaf, leaf = decide (2 ≤ b.toNat / 16) → ¬ packR leaf (((b.toNat : Int) % 16) :: nibs r) = (s, 0) := by
        intro leaf hlf
        by_cases hx : r.length ≤ 63
        · rw [code_odd b r leaf hx]
          intro e
          simp only [Prod.mk.injEq, and_true] at e
          rw [hsr] at e
          have e2 := ofNat_eq (by cases leaf <;> simp [mk] <;> omega) (str_cons_inj e)
          have : leaf = true ∨ leaf = false := by cases leaf <;> simp
          rcases this with h | h <;> rw [h] at e2 hlf <;> simp [mk] at e2 hlf <;> omega
        · rw [pack_far leaf _ (by simp [hln]; omega)]
          exact empty_ne (by omega)
      by_cases h2 : 2 ≤ b.toNat / 16
      · exact rUnpack_olx s w r.length hsz (by omega) _ _ hn (by simp; omega) (by omega) (by omega) (hbad true (by simp [h2]))
      · exact rUnpack_onx s w r.length hsz (by omega) _ _ hn (by simp; omega) (by omega) (by omega) (by omega) (hbad false (by simp [h2]))
    · rw [if_neg ho] at hu
      have hc : ¬ (b.toNat / 16 ≤ 3 ∧ b.toNat % 16 = 0 ∧ r.length ≤ 64) := fun hc => by rw [if_pos hc] at hu; cases hu
      have hn : nibs s.data.toList = ((b.toNat : Int) / 16) :: ((b.toNat : Int) % 16) :: nibs r := by rw [hl]; rfl
      have hbad : ∀ leaf, leaf = decide (2 ≤ b.toNat / 16) → ¬ packR leaf (nibs r) = (s, 0) := by
        intro leaf hlf
        by_cases hx : r.length ≤ 64
        · rw [code_even r leaf hx]
          intro e
          simp only [Prod.mk.injEq, and_true] at e
          rw [hsr] at e
          have e2 := ofNat_eq (by cases leaf <;> simp [mk]) (str_cons_inj e)
          have : leaf = true ∨ leaf = false := by cases leaf <;> simp
          rcases this with h | h <;> rw [h] at e2 hlf <;> simp [mk] at e2 hlf <;> omega
        · rw [pack_far leaf _ (by simp [hln]; omega)]
          exact empty_ne (by omega)
      by_cases h2 : 2 ≤ b.toNat / 16
      · exact rUnpack_elx s w r.length hsz (by omega) _ _ _ hn (by simp; omega) (by omega) (by omega) (hbad true (by simp [h2]))
      · exact rUnpack_enx s w r.length hsz (by omega) _ _ _ hn (by simp; omega) (by omega) (by omega) (by omega) (hbad false (by simp [h2]))

theorem pUnpack_some (s : ByteArray) (w : World) (p : List Int) (lf : Bool) (hu : unpL s.data.toList = some (p, lf)) :
    Calls Tryz.prog 175 #[.string s] w fun e w' => ∃ g o, e = .returned (.tuple #[.slice (some ⟨g, o, none⟩) p.length p.length, .bool lf, .int .i64 0]) ∧ FullRow w' g o p ∧ w.heap.size ≤ g ∧ Below w.heap.size w w' := by
  cases hl : s.data.toList with
  | nil => rw [hl] at hu; simp [unpL] at hu
  | cons b r =>
    have hd1 := nibs_drop1 hl
    have hd2 := nibs_drop2 hl
    rw [hl] at hu
    have hsz := size_cons hl
    have h0 : 0 < s.size := by omega
    have hget := get_cons hl h0
    have hb := b.toNat_lt
    simp only [unpL] at hu
    by_cases ho : b.toNat / 16 % 2 = 1
    · rw [if_pos ho] at hu
      by_cases hc : b.toNat / 16 ≤ 3 ∧ r.length ≤ 63
      · rw [if_pos hc] at hu
        simp only [Option.some.injEq, Prod.mk.injEq] at hu
        obtain ⟨rfl, rfl⟩ := hu
        by_cases h2 : 2 ≤ b.toNat / 16
        · have hd : decide (2 ≤ b.toNat / 16) = true := by simp [h2]
          rw [hd]
          exact pUnpack_g3 s w h0 (by omega) ((b.toNat : Int) % 16) (by rw [hget]; omega) (by rw [hget]) _ hd1
        · have hd : decide (2 ≤ b.toNat / 16) = false := by simp [h2]
          rw [hd]
          exact pUnpack_g1 s w h0 (by omega) ((b.toNat : Int) % 16) (by rw [hget]; omega) (by rw [hget]) _ hd1
      · rw [if_neg hc] at hu; cases hu
    · rw [if_neg ho] at hu
      by_cases hc : b.toNat / 16 ≤ 3 ∧ b.toNat % 16 = 0 ∧ r.length ≤ 64
      · rw [if_pos hc] at hu
        simp only [Option.some.injEq, Prod.mk.injEq] at hu
        obtain ⟨rfl, rfl⟩ := hu
        by_cases h2 : 2 ≤ b.toNat / 16
        · have hd : decide (2 ≤ b.toNat / 16) = true := by simp [h2]
          rw [hd]
          exact pUnpack_g2 s w h0 (by omega) (by rw [hget]; omega) (by rw [hget]; omega) _ hd2
        · have hd : decide (2 ≤ b.toNat / 16) = false := by simp [h2]
          rw [hd]
          exact pUnpack_g0 s w h0 (by omega) (by rw [hget]; omega) (by rw [hget]; omega) _ hd2
      · rw [if_neg hc] at hu; cases hu

theorem pUnpack_none (s : ByteArray) (w : World) (hs : s.size ≤ 9223372036854775807) (hu : unpL s.data.toList = none) :
    Calls Tryz.prog 175 #[.string s] w fun e w' => e = .returned (.tuple #[.slice none 0 0, .bool false, .int .i64 7]) ∧ Below w.heap.size w w' := by
  have same : ∀ {w : World} (h : Calls Tryz.prog 175 #[.string s] w fun e w' => e = .returned (.tuple #[.slice none 0 0, .bool false, .int .i64 7]) ∧ w' = w), Calls Tryz.prog 175 #[.string s] w fun e w' => e = .returned (.tuple #[.slice none 0 0, .bool false, .int .i64 7]) ∧ Below w.heap.size w w' := by
    intro w h
    refine h.mono ?_
    rintro e w' ⟨rfl, rfl⟩
    exact ⟨rfl, Below.refl _ _⟩
  by_cases h65 : 65 < s.size
  · exact same (pUnpack_long s w h65 hs)
  cases hl : s.data.toList with
  | nil => have := str_nil hl; subst this; exact same (pUnpack_nil w)
  | cons b r =>
    rw [hl] at hu
    have hsz := size_cons hl
    have h0 : 0 < s.size := by omega
    have hget := get_cons hl h0
    have hb := b.toNat_lt
    simp only [unpL] at hu
    by_cases h3 : 3 < b.toNat / 16
    · exact pUnpack_e1 s w h0 (by omega) ((b.toNat : Int) / 16) ((b.toNat : Int) % 16) (by rw [hget]) (by rw [hget]) (by omega)
    by_cases ho : b.toNat / 16 % 2 = 1
    · rw [if_pos ho] at hu
      have hc : ¬ (b.toNat / 16 ≤ 3 ∧ r.length ≤ 63) := fun hc => by rw [if_pos hc] at hu; cases hu
      by_cases h2 : 2 ≤ b.toNat / 16
      · exact pUnpack_e3_3 s w h0 (by omega) ((b.toNat : Int) % 16) (by rw [hget]; omega) (by rw [hget]) (by omega)
      · exact pUnpack_e3_1 s w h0 (by omega) ((b.toNat : Int) % 16) (by rw [hget]; omega) (by rw [hget]) (by omega)
    · rw [if_neg ho] at hu
      have hc : ¬ (b.toNat / 16 ≤ 3 ∧ b.toNat % 16 = 0 ∧ r.length ≤ 64) := fun hc => by rw [if_pos hc] at hu; cases hu
      by_cases h2 : 2 ≤ b.toNat / 16
      · exact pUnpack_e2_2 s w h0 (by omega) ((b.toNat : Int) % 16) (by rw [hget]; omega) (by rw [hget]) (by omega)
      · exact pUnpack_e2_0 s w h0 (by omega) ((b.toNat : Int) % 16) (by rw [hget]; omega) (by rw [hget]) (by omega)

end Go.Proofs.YthdjmldddjljfaaGreatDoor.V
