/-
  OUR OWN.
-/
import Derived.Test.YthdjmldddjljfaaGreatDoorH22
import Derived.Test.YthdjmldddjljfaaGreatDoorShelf
set_option maxHeartbeats 8000000
set_option maxRecDepth 20000
namespace Go.Proofs.YthdjmldddjljfaaGreatDoor
open Go.RowKit
attribute [local go_sem ↓] Go.wp_at_zero Go.wp_at_succ
theorem strOfNums_size (l:List Int):(strOfNums l).size=l.length:=by
 simp[strOfNums,ByteArray.size]
theorem lenS_length (n:Nat):(lenS n).length=cntB n:=by simp[lenS,leN_length]
def hdr (mark n:Nat):List Int:=if n≤55 then [((mark+n:Nat):Int)] else ((mark+55+cntB n:Nat):Int) :: lenS n
def headS (mark:Nat)(s:ByteArray):ByteArray:=strOfNums (hdr mark s.size)++s
theorem conv_new (w:World)(x:Int):(convert 144 9 (.slice (some ⟨w.heap.size,0,none⟩) 1 1)).run Tryz.prog (w.alloc (.cells #[.int .u8 x] 5))=.ok (.string (strOfNums [x])) (w.alloc (.cells #[.int .u8 x] 5)):=by
 have h:=World.ownsRow_made (base:=w.heap.size) (e:=5) (size:=1) w #[.int .u8 x] 1 (Nat.le_refl _) (by unfold maxLen;omega) rfl
 refine run_convert_bytes_arg (P:=Tryz.prog) _ 144 5 Tryz.underlying144 Tryz.underlying5 w.heap.size 0 1 1 [x] rfl ?_ 9 Tryz.underlying9
 intro i hi
 obtain rfl:i=0:=by simpa using hi
 rw[World.cell?_alloc_new (w:=w) #[.int .u8 x] 5 0]
 rfl
theorem withHead_any (mark:Nat)(s:ByteArray)(w:World)(hm:mark≤192)(hs:s.size<16777216) :
  Calls Tryz.prog 116 #[.int .i64 (mark:Int),.string s] w fun e w' => e=.returned (.string (headS mark s))∧Below w.heap.size w w' := by
 by_cases h2:s.size≤55
 ·have c2:(s.size:Int)≤55:=by omega
  have c3:(mark:Int)≤192:=by omega
  have hcv:=conv_new w ((mark:Int)+(s.size:Int))
  have hz1:(strOfNums [(mark:Int)+(s.size:Int)]).size=1:=by rw[strOfNums_size];rfl
  have HE:Hid (headS mark s=strOfNums [(mark:Int)+(s.size:Int)]++s):=by show _=_;unfold headS hdr;rw[if_pos h2];simp
  go_enter Tryz.func116,Tryz.ntmps116
  go_wp2
  go_ret
  exact⟨by rw[HE.out];rfl,below_alloc _ _⟩
 ·have c2:55 < (s.size:Int):=by omega
  have c3:(mark:Int)≤192:=by omega
  have c4:=cntB_le3 s.size hs
  have HS:=hide hs
  clear hs
  have HLB:Hid (∀W,Calls Tryz.prog 143 #[.int .i64 (s.size:Int)] W fun e w' => e=.returned (.string (strOfNums (lenS s.size)))∧Below W.heap.size W w'):=fun W=>lengthBytes_any s.size W (by omega) HS.out
  have HZ:(strOfNums (lenS s.size)).size=cntB s.size:=by rw[strOfNums_size,lenS_length]
  have HE:Hid (headS mark s=strOfNums [(mark:Int)+55+(cntB s.size:Int)]++strOfNums (lenS s.size)++s):=by
   show _=_
   unfold headS hdr
   rw[if_neg h2]
   congr 1
  generalize strOfNums (lenS s.size)=S at *
  generalize cntB s.size=K at *
  have hcv:=fun W:World=>conv_new W ((mark:Int)+55+(S.size:Int))
  have hz1:(strOfNums [(mark:Int)+55+(S.size:Int)]).size=1:=by rw[strOfNums_size];rfl
  have hz2:(strOfNums [(mark:Int)+55+(S.size:Int)]++S).size≤4:=by rw[ByteArray.size_append,hz1];omega
  have c6:(S.size:Int)≤3:=by omega
  have HZ2:=hide HZ
  have HCV:=hide hcv
  have H1:=hide hz1
  have H2:=hide hz2
  clear HZ c4 hcv hz1 hz2
  go_enter Tryz.func116,Tryz.ntmps116
  go_wp2_with fail
  refine (HLB.out w).mono ?_
  rintro e w1 ⟨rfl,hb⟩
  have hcv:=HCV.out w1
  have hz1:=H1.out
  have hz4:¬9223372036854775807 < (strOfNums [(mark:Int)+55+(S.size:Int)]++S).size+s.size:=by have:=H2.out;have:=HS.out;omega
  go_wp2
  go_ret
  exact⟨by rw[HE.out,←HZ2.out];rfl,hb.alloc hb.size _⟩
def textC (s:ByteArray):ByteArray:=if ownC s then s else headS 128 s
theorem textCode_any (s:ByteArray)(w:World)(hs:s.size<16777216) :
  Calls Tryz.prog 86 #[.string s] w fun e w' => e=.returned (.string (textC s))∧Below w.heap.size w w' := by
 have HO:Hid (∀W,Calls Tryz.prog 115 #[.string s] W fun e w' => e=.returned (.bool (ownC s))∧w' = W):=fun W=>isOwnCode_any s W (by omega)
 have HS:=hide hs
 clear hs
 cases ho:ownC s with
 | true =>
   have HE:Hid (textC s=s):=by show _=_;simp[textC,ho]
   rw[ho] at HO
   clear ho
   go_enter Tryz.func86,Tryz.ntmps86
   go_wp2_with fail
   refine (HO.out w).mono ?_
   rintro e w1 ⟨rfl,rfl⟩
   go_wp2_with fail
   refine (clone_any s w1 (by have:=HS.out;omega)).mono ?_
   rintro e w2 ⟨rfl,hb⟩
   go_wp2
   go_ret
   exact⟨by rw[HE.out];rfl,hb⟩
 | false =>
   have HE:Hid (textC s=headS 128 s):=by show _=_;simp[textC,ho]
   rw[ho] at HO
   clear ho
   go_enter Tryz.func86,Tryz.ntmps86
   go_wp2_with fail
   refine (HO.out w).mono ?_
   rintro e w1 ⟨rfl,rfl⟩
   go_wp2_with fail
   refine (withHead_any 128 s w1 (by omega) HS.out).mono ?_
   rintro e w2 ⟨rfl,hb⟩
   go_wp2
   go_ret
   exact⟨by rw[HE.out];rfl,hb⟩
def joinB (cs:List ByteArray):ByteArray:=⟨(cs.flatMap (·.data.toList)).toArray⟩
def listC (cs:List ByteArray):ByteArray:=headS 192 (joinB cs)
theorem join_nosep (cs:List ByteArray):Lib.join (cs.map (·.data.toList)) []=cs.flatMap (·.data.toList):=by
 cases cs with
 | nil=>rfl
 | cons x r=>rw[List.map_cons,Lib.join_cons];simp[Lib.joinTail,List.flatMap_def,Function.comp_def]
theorem join_any (bk o c:Nat)(cs:List ByteArray)(w:World)(hcells:∀(j:Nat) x,cs[j]? = some x→w.cell? ⟨bk,o+j,none⟩=some (.string x))(hN:cs.length≤400)(hcap:cs.length≤c)(hlen:(joinB cs).size<16777216) :
  Calls Tryz.prog 217 #[.slice (some ⟨bk,o,none⟩) cs.length c,.string ⟨#[]⟩] w fun e w' => e=.returned (.string (joinB cs))∧Below w.heap.size w w' := by
 by_cases h0:cs.length=0
 ·obtain rfl:cs=[]:=List.length_eq_zero_iff.1 h0
  refine (Tryz.strings_Join_none (some ⟨bk,o,none⟩) c ⟨#[]⟩ w).mono ?_
  rintro e w' ⟨rfl,rfl⟩
  exact⟨rfl,Below.refl _ _⟩
 ·have hbk:bk<w.heap.size:=World.block_lt_of_cell? w _ (hcells 0 _ (List.getElem?_eq_getElem (by omega)))
  have hj:=join_nosep cs
  have e:(joinB cs).size=(cs.flatMap (fun x=>x.data.toList)).length:=by show (List.toArray _).size=_;rw[List.size_toArray]
  have hl:(Lib.join (cs.map (fun x=>x.data.toList)) (⟨#[]⟩:ByteArray).data.toList).length≤140737488355328:=by
   rw[show (⟨#[]⟩:ByteArray).data.toList=[] from rfl,hj,←e]
   exact Nat.le_trans (Nat.le_of_lt hlen) (by decide)
  have h2:=Tryz.strings_Join bk o c cs ⟨#[]⟩ w hcells hbk (by omega) hcap hl
  rw[show (⟨#[]⟩:ByteArray).data.toList=[] from rfl,hj] at h2
  exact h2
theorem listCode_any (bk o c:Nat)(cs:List ByteArray)(w:World)(hcells:∀(j:Nat) x,cs[j]? = some x→w.cell? ⟨bk,o+j,none⟩=some (.string x))(hN:cs.length≤400)(hcap:cs.length≤c)(hlen:(joinB cs).size<16777216) :
  Calls Tryz.prog 210 #[.slice (some ⟨bk,o,none⟩) cs.length c] w fun e w' => e=.returned (.string (listC cs))∧Below w.heap.size w w' := by
 have HJ:=hide (join_any bk o c cs w hcells hN hcap hlen)
 have HS:=hide hlen
 clear hcells hlen hN hcap
 go_enter Tryz.func210,Tryz.ntmps210
 go_wp2_with fail
 refine HJ.out.mono ?_
 rintro e w1 ⟨rfl,hb⟩
 go_wp2_with fail
 refine (withHead_any 192 (joinB cs) w1 (by omega) HS.out).mono ?_
 rintro e w2 ⟨rfl,hb2⟩
 go_wp2
 go_ret
 exact⟨rfl,hb.trans (hb2.mono hb.size)⟩
end Go.Proofs.YthdjmldddjljfaaGreatDoor
