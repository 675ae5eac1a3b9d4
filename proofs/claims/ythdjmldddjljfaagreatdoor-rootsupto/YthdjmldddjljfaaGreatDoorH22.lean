/-
  OUR OWN.
-/
import Derived.Test.YthdjmldddjljfaaGreatDoorH13
import Derived.Lib.Strings
import Derived.Lib.Walk
import Derived.Lib.BufferWrite
import Derived.Lib.UnsafeStr
set_option maxHeartbeats 8000000
set_option maxRecDepth 20000
namespace Go.Proofs.YthdjmldddjljfaaGreatDoor
open Go.RowKit
attribute [local go_sem ↓] Go.wp_at_zero Go.wp_at_succ
def byteN (s:ByteArray)(i:Nat):Nat:=(s.data.toList.getD i 0).toNat
theorem byteN_eq (s:ByteArray)(i:Nat)(h:i<s.size):s[i].toNat=byteN s i:=by
 unfold byteN
 have h2:i<s.data.toList.length:=by rw[Array.length_toList];exact h
 rw[List.getD_eq_getElem?_getD,List.getElem?_eq_getElem h2]
 rfl
theorem empty_of_size {s:ByteArray}(h:s.size=0):s=⟨#[]⟩:=ByteArray.ext (Array.eq_empty_of_size_eq_zero h)
theorem liteClone_any (s:ByteArray)(w:World)(hs:s.size≤281474976710656) :
  Calls Tryz.prog 82 #[.string s] w fun e w' => e=.returned (.string s)∧Below w.heap.size w w' := by
 by_cases h0:s.size=0
 ·have h1:=empty_of_size h0
  subst h1
  go_enter Tryz.func82,Tryz.ntmps82
  go_wp2
  go_ret
  exact⟨rfl,Below.refl _ _⟩
 ·obtain⟨i0,hi,hz0,hz1,hz2⟩:=info_parts info5
  have hinfo:(Tryz.prog.info? 5).map (·.size)=some 1:=by rw[hi];simp[hz1]
  have hco:Tryz.prog.cellsOf 5=1:=by simp[Program.cellsOf,hi,hz1]
  have hmk:=make_bytes s.size hs
  obtain⟨M,hM⟩:∃M,M=madeCells #[.int .u8 0] s.size:=⟨_,rfl⟩
  have hMs:M.size=s.size:=by rw[hM,size_madeCells]
  rw[←hM] at hmk
  have hcp:=Lib.run_copy_row_string (P:=Tryz.prog) (w.alloc (.cells M 5)) 144 9 3 5 w.heap.size 0 s.size s.size s M 5 Tryz.underlying144 hinfo (heap_alloc_new w _) (Nat.le_refl _) (by omega)
  obtain⟨Y,hY⟩:∃Y,Y=(M.toList.take 0++Lib.byteCells s.data.toList++M.toList.drop (0+s.size)).toArray:=⟨_,rfl⟩
  rw[←hY] at hcp
  have hYl:Y.toList=Lib.byteCells s.data.toList:=by
   rw[hY,List.toList_toArray,List.take_zero,List.nil_append,List.drop_of_length_le (by rw[Array.length_toList];omega),List.append_nil]
  have hYs:Y.size=s.size:=by rw[←Array.length_toList,hYl,Lib.byteCells_length,←Lib.size_eq]
  have hgY:((w.alloc (.cells M 5)).setRow w.heap.size Y).heap[w.heap.size]? = some (.cells Y 5 (0,0)):=setRow_heap _ _ M _ 5 (0,0) (heap_alloc_new w _)
  have hne:s.data.toList≠[]:=fun e=>h0 (by rw[Lib.size_eq,e];rfl)
  have hUS:=Lib.run_unsafeString_row (P:=Tryz.prog) ((w.alloc (.cells M 5)).setRow w.heap.size Y) 200 3 9 5 Tryz.underlying200 hco w.heap.size Y.size (by unfold World.shape?;rw[hgY]) s.data.toList hne (by rw[←Lib.size_eq];omega) (by rw[←Lib.size_eq];omega)
   (fun j x hx=>Lib.cells_of_row hgY Y.size j _ (by rw[List.take_of_length_le (by rw[Array.length_toList];exact Nat.le_refl _),hYl];simp[Lib.byteCells,hx]))
  rw[←Lib.size_eq] at hUS
  clear hY hM
  go_enter Tryz.func82,Tryz.ntmps82
  go_wp2
  go_ret
  have hb1:Below w.heap.size w (w.alloc (.cells M 5)):=below_alloc _ _
  have hb2:Below w.heap.size (w.alloc (.cells M 5)) ((w.alloc (.cells M 5)).setRow w.heap.size Y):=⟨rfl,rfl,rfl,by simp,fun k hk=>setRow_other _ _ _ _ (by omega)⟩
  exact⟨rfl,Lib.below_freeze (hb1.trans hb2) (p:=⟨w.heap.size,0,none⟩) (Nat.le_refl _) _⟩
theorem clone_any (s:ByteArray)(w:World)(hs:s.size≤281474976710656) :
  Calls Tryz.prog 46 #[.string s] w fun e w' => e=.returned (.string s)∧Below w.heap.size w w' := by
 have HS:=hide hs
 clear hs
 go_enter Tryz.func46,Tryz.ntmps46
 go_wp2_with fail
 refine (liteClone_any s w HS.out).mono ?_
 rintro e w1 ⟨rfl,hb⟩
 go_wp2
 go_ret
 exact⟨rfl,hb⟩
def ownC (s:ByteArray):Bool:=decide (s.size=1) && decide (byteN s 0 < 128)
theorem isOwnCode_any (s:ByteArray)(w:World)(_hs:s.size≤281474976710656) :
  Calls Tryz.prog 115 #[.string s] w fun e w' => e=.returned (.bool (ownC s))∧w' = w:=by
 by_cases h1:s.size=1
 ·have h0:0 < s.size:=by omega
  have HB:=hide (byteN_eq s 0 h0)
  have e1:(s.size:Int)=1:=by omega
  have HE:Hid (ownC s=decide ((s[0].toNat:Int)<128)):=by show _=_;unfold ownC;rw[HB.out];simp[h1];omega
  go_enter Tryz.func115,Tryz.ntmps115
  go_wp2
  go_ret
  exact⟨by rw[HE.out];rfl,rfl⟩
 ·have HE:Hid (ownC s=false):=by show _=_;simp[ownC,h1]
  have e1:((s.size:Int) == 1)=false:=by simp;omega
  go_enter Tryz.func115,Tryz.ntmps115
  go_wp2
  go_ret
  exact⟨by rw[HE.out];rfl,rfl⟩
theorem below_set {w w' : World}{B g j:Nat}(h:Below B w w')(hg:B≤g)(u:Value):Below B w (w'.setCell ⟨g,j,none⟩ u):=h.setCell hg u
theorem reverse_one (base g c:Nat)(x:Int)(w:World)(_h:w.ownsRow base 5 1 (.slice (some ⟨g,0,none⟩) 1 c) 1 [.int .u8 x]) :
  Calls Tryz.prog 158 #[.slice (some ⟨g,0,none⟩) 1 c] w fun e w' => e=.returned (.tuple #[])∧w' = w:=by
 go_enter Tryz.func158,Tryz.ntmps158
 go_wp2
 refine wp_loop_rounds 1 ?_
 rw[rounds_succ]
 go_wp2
 go_end0
 exact⟨rfl,rfl⟩
theorem reverse_two (base g c:Nat)(x y:Int)(w:World)(h:w.ownsRow base 5 1 (.slice (some ⟨g,0,none⟩) 2 c) 2 [.int .u8 x,.int .u8 y])(hb:base≤g) :
  Calls Tryz.prog 158 #[.slice (some ⟨g,0,none⟩) 2 c] w fun e w' => e=.returned (.tuple #[])∧w'.ownsRow base 5 1 (.slice (some ⟨g,0,none⟩) 2 c) 2 [.int .u8 y,.int .u8 x]∧Below base w w' := by
 have h0:w.cell? ⟨g,0,none⟩=some (.int .u8 x):=by rw[h.cellAt 0 (by omega)];rfl
 have h1:w.cell? ⟨g,1,none⟩=some (.int .u8 y):=by rw[h.cellAt 1 (by omega)];rfl
 have f0:=h.frozenAt 0
 have f1:=h.frozenAt 1
 have HO:=hide h
 clear h
 go_enter Tryz.func158,Tryz.ntmps158
 go_wp2
 refine wp_loop_rounds 2 ?_
 rw[rounds_succ]
 go_wp2
 go_region
 all_goals
  go_wp2
  rw[rounds_succ]
  go_wp2
  go_end0
  refine⟨rfl,?_⟩
  first
  | (have o1:=HO.out.stored 0 (.int .u8 y);have o2:=o1.1.stored 1 (.int .u8 x);exact⟨o2.1,below_set (below_set (below_drewN (Below.refl _ _) _) hb _) hb _⟩)
  | (have o1:=HO.out.stored 1 (.int .u8 x);have o2:=o1.1.stored 0 (.int .u8 y);exact⟨o2.1,below_set (below_set (below_drewN (Below.refl _ _) _) hb _) hb _⟩)
theorem reverse_three (base g c:Nat)(x z y:Int)(w:World)(h:w.ownsRow base 5 1 (.slice (some ⟨g,0,none⟩) 3 c) 3 [.int .u8 x,.int .u8 z,.int .u8 y])(hb:base≤g) :
  Calls Tryz.prog 158 #[.slice (some ⟨g,0,none⟩) 3 c] w fun e w' => e=.returned (.tuple #[])∧w'.ownsRow base 5 1 (.slice (some ⟨g,0,none⟩) 3 c) 3 [.int .u8 y,.int .u8 z,.int .u8 x]∧Below base w w' := by
 have h0:w.cell? ⟨g,0,none⟩=some (.int .u8 x):=by rw[h.cellAt 0 (by omega)];rfl
 have h1:w.cell? ⟨g,2,none⟩=some (.int .u8 y):=by rw[h.cellAt 2 (by omega)];rfl
 have f0:=h.frozenAt 0
 have f1:=h.frozenAt 2
 have HO:=hide h
 clear h
 go_enter Tryz.func158,Tryz.ntmps158
 go_wp2
 refine wp_loop_rounds 2 ?_
 rw[rounds_succ]
 go_wp2
 go_region
 all_goals
  go_wp2
  rw[rounds_succ]
  go_wp2
  go_end0
  refine⟨rfl,?_⟩
  first
  | (have o1:=HO.out.stored 0 (.int .u8 y);have o2:=o1.1.stored 2 (.int .u8 x);exact⟨o2.1,below_set (below_set (below_drewN (Below.refl _ _) _) hb _) hb _⟩)
  | (have o1:=HO.out.stored 2 (.int .u8 x);have o2:=o1.1.stored 0 (.int .u8 y);exact⟨o2.1,below_set (below_set (below_drewN (Below.refl _ _) _) hb _) hb _⟩)
def leN:Nat→Nat→List Int
 | 0,_=>[]
 | k+1,n=>((n % 256:Nat):Int) :: leN k (n / 256)
def cntB (n:Nat):Nat:=if n=0 then 0 else if n<256 then 1 else if n<65536 then 2 else if n<16777216 then 3 else if n<4294967296 then 4 else if n<1099511627776 then 5 else if n<281474976710656 then 6 else 7
def lenS (n:Nat):List Int:=(leN (cntB n) n).reverse
theorem leN_length:∀k n,(leN k n).length=k
 | 0,_=>rfl
 | k+1,n=>by simp[leN,leN_length k]
theorem leN_snoc:∀k n,leN (k+1) n=leN k n++[((n / 256 ^ k % 256:Nat):Int)]
 | 0,n=>by simp[leN]
 | k+1,n=>by
   rw[leN,leN_snoc k (n / 256),leN]
   simp[Nat.pow_succ,Nat.div_div_eq_div_mul,Nat.mul_comm]
theorem cntB_cases (n:Nat):(n=0∧cntB n=0)∨(0 < n∧n<256∧cntB n=1)∨(256≤n∧n<65536∧cntB n=2)∨(65536≤n∧n<16777216∧cntB n=3)∨(16777216≤n∧n<4294967296∧cntB n=4)∨(4294967296≤n∧n<1099511627776∧cntB n=5)∨(1099511627776≤n∧n<281474976710656∧cntB n=6)∨(281474976710656≤n∧cntB n=7):=by
 unfold cntB
 split
 ·omega
 ·split
  ·omega
  ·split
   ·omega
   ·split
    ·omega
    ·split
     ·omega
     ·split
      ·omega
      ·split<;>omega
theorem cntB_le7 (n:Nat):cntB n≤7:=by have:=cntB_cases n;omega
theorem cntB_le3 (n:Nat)(h:n<16777216):cntB n≤3:=by have:=cntB_cases n;omega
theorem cntB_lt (n j:Nat)(hn:n<72057594037927936):j<cntB n↔0 < n / 256 ^ j:=by
 have hc:=cntB_cases n
 match j with
 | 0=>simp only[Nat.pow_zero,Nat.div_one];omega
 | 1=>rw[show 256 ^ 1=256 from rfl];omega
 | 2=>rw[show 256 ^ 2=65536 from rfl];omega
 | 3=>rw[show 256 ^ 3=16777216 from rfl];omega
 | 4=>rw[show 256 ^ 4=4294967296 from rfl];omega
 | 5=>rw[show 256 ^ 5=1099511627776 from rfl];omega
 | 6=>rw[show 256 ^ 6=281474976710656 from rfl];omega
 | j+7 =>
   have:n / 256 ^ (j+7)=0:=by
    apply Nat.div_eq_of_lt
    have:256 ^ 7≤256 ^ (j+7):=Nat.pow_le_pow_right (by decide) (by omega)
    omega
   rw[this]
   have:=cntB_le7 n
   omega
theorem u8_of (n:Nat):IntKind.u8.wrap (n:Int)=((n % 256:Nat):Int):=by
 rw[IntKind.wrap_u8];omega
theorem lengthBytes_any (n:Nat)(w:World)(h0:0 < n)(hn:n<16777216) :
  Calls Tryz.prog 143 #[.int .i64 (n:Int)] w fun e w' => e=.returned (.string (strOfNums (lenS n)))∧Below w.heap.size w w' := by
 obtain⟨i0,hi,hz0,hz1,hz2⟩:=info_parts info5
 go_enter Tryz.func143,Tryz.ntmps143
 go_wp2
 go_loopw [0,3] (fun nv v wr=>∃j:Nat,j≤cntB n∧nv=.int .i64 ((n / 256 ^ j:Nat):Int)∧wr.ownsRow w.heap.size 5 1 v j ((leN j n).map (Value.int .u8))∧Below w.heap.size w wr) (fun nv _ _=>(intOf nv).toNat)
 case atStart=>exact⟨0,Nat.zero_le _,by simp,World.ownsRow_nil _ _ _ _,Below.refl _ _⟩
 case round =>
  obtain⟨j,hj,rfl,hown,hbw⟩:=hrel
  have hiff:=cntB_lt n j (by omega)
  have hc3:cntB n≤3:=cntB_le3 n hn
  have hm:n / 256 ^ j<16777216:=Nat.lt_of_le_of_lt (Nat.div_le_self _ _) hn
  by_cases hlt:j<cntB n
  ·have hpos:=hiff.1 hlt
   have HS:Hid ((leN (j+1) n).map (Value.int .u8)=(leN j n).map (Value.int .u8)++[.int .u8 ((n / 256 ^ j % 256:Nat):Int)]):=by show _=_;rw[leN_snoc];simp
   have HD:Hid (n / 256 ^ (j+1)=n / 256 ^ j / 256):=by show _=_;rw[Nat.pow_succ,Nat.div_div_eq_div_mul]
   generalize n / 256 ^ j=X at *
   have HOW:=hide hown
   have HBW:=hide hbw
   have k1:=u8_of X
   clear hown hbw hiff
   have hXm:((X % 256:Nat):Int)=(X:Int) % 256:=by omega
   rw[hXm] at HS
   clear hXm k1
   go_wp2_with (at_builtin;go_must (refine wpList_append_lies _ rfl (.tmp 8) (.tmp 11) 144 rfl w.heap.size 5 i0 (.int .u8 0) 1 1 Tryz.underlying144 hi hz0 hz1 hz2 rfl (by decide) u3 j _ rfl (HOW.out.alloc _) ⟨wr.heap.size,0,none⟩ 1 1 [.int .u8 ((X:Int) % 256)] rfl rfl (World.news_of_block (cs:=#[.int .u8 ((X:Int) % 256)]) (t:=5) (fr:=(0,0)) (heap_alloc_new wr _)) (by simp[Value.oneCell']) (by omega) (by unfold maxLen;omega) (by omega) (by have:=HBW.out.size;simp;omega) _ rfl ?_);intro g3 c3 w3 ho3 hg3 hat3 hlt3;go_must (have HO3:=hide (And.intro ho3 hg3));clear ho3 hg3 hat3 hlt3)
   go_roundw
   case rel=>exact⟨j+1,by omega,by rw[HD.out];go_num,by rw[HS.out];exact HO3.out.1,(HBW.out.alloc HBW.out.size _).grown HO3.out.2 (by have:=HBW.out.size;simp;omega) (own_ge HOW.out (Nat.le_refl _))⟩
   case measure=>simp[intOf];omega
  ·have hje:j=cntB n:=by omega
   have hz:n / 256 ^ j=0:=Nat.eq_zero_of_not_pos (fun h=>hlt (hiff.2 h))
   rw[hz]
   rw[hje] at hown
   have HBW:=hide hbw
   have HOW:=hide hown
   clear hown hbw hiff hz
   have hcn:1≤cntB n:=by have:=cntB_cases n;omega
   obtain⟨g,c,rfl,hgb,_⟩:=HOW.out.form (by omega)
   have fin:∀(w5:World),Below w.heap.size wr w5→w5.ownsRow w.heap.size 5 1 (.slice (some ⟨g,0,none⟩) (cntB n) c) (cntB n) ((lenS n).map (Value.int .u8))→Below w.heap.size w w5∧(convert 144 9 (.slice (some ⟨g,0,none⟩) (cntB n) c)).run Tryz.prog w5=.ok (.string (strOfNums (lenS n))) w5 :=
    fun w5 hb ho=>⟨HBW.out.trans hb,conv_own ho⟩
   have hrev:Calls Tryz.prog 158 #[.slice (some ⟨g,0,none⟩) (cntB n) c] wr fun e w' => e=.returned (.tuple #[])∧w'.ownsRow w.heap.size 5 1 (.slice (some ⟨g,0,none⟩) (cntB n) c) (cntB n) ((lenS n).map (Value.int .u8))∧Below w.heap.size wr w' := by
    have hO:=HOW.out
    unfold lenS
    match hk:cntB n,hcn,hc3 with
    | 1,_,_ =>
      rw[hk] at hO
      refine (reverse_one w.heap.size g c _ wr hO).mono ?_
      rintro e w' ⟨rfl,rfl⟩
      exact⟨rfl,hO,Below.refl _ _⟩
    | 2,_,_ =>
      rw[hk] at hO
      exact reverse_two w.heap.size g c _ _ wr hO hgb
    | 3,_,_ =>
      rw[hk] at hO
      exact reverse_three w.heap.size g c _ _ _ wr hO hgb
   have HR:=hide hrev
   have HFn:=hide fin
   clear hrev fin
   generalize cntB n=K at *
   go_wp2_with fail
   refine HR.out.mono ?_
   rintro e w5 ⟨rfl,ho5,hb5⟩
   obtain⟨hb6,hcv⟩:=HFn.out w5 hb5 ho5
   go_wp2
   go_ret
   exact⟨rfl,hb6⟩
end Go.Proofs.YthdjmldddjljfaaGreatDoor
