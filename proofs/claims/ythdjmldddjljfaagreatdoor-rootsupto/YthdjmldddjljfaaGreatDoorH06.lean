/-
  OUR OWN.
-/
import Derived.Test.YthdjmldddjljfaaGreatDoorH02
import Derived.Laws.Bits64
import Derived.Laws.BitsAllLaws
set_option maxHeartbeats 8000000
set_option maxRecDepth 20000
namespace Go.Proofs.YthdjmldddjljfaaGreatDoor
open Go.RowKit
def W64 (n:Nat):Prop:=n<18446744073709551616
theorem W64.lt {n:Nat}(h:W64 n):n<18446744073709551616:=h
theorem W64.xor {a b:Nat}(ha:W64 a)(hb:W64 b):W64 (a ^^^ b):=by
 have:a ^^^ b<2 ^ 64:=Nat.xor_lt_two_pow (by have:=ha.lt;omega) (by have:=hb.lt;omega)
 unfold W64;omega
theorem W64.or {a b:Nat}(ha:W64 a)(hb:W64 b):W64 (a ||| b):=by
 have:a ||| b<2 ^ 64:=Nat.or_lt_two_pow (by have:=ha.lt;omega) (by have:=hb.lt;omega)
 unfold W64;omega
theorem W64.and {a b:Nat}(ha:W64 a):W64 (a &&& b):=by
 have:=Nat.and_le_left (n:=a) (m:=b)
 have:=ha.lt
 unfold W64;omega
def rot (a k:Nat):Nat:=(a*2 ^ k % 18446744073709551616) ||| (a / 2 ^ (64 - k))
theorem rot_w {a:Nat}(h:W64 a)(k:Nat):W64 (rot a k) :=
 W64.or (Nat.mod_lt _ (by omega)) (Nat.lt_of_le_of_lt (Nat.div_le_self _ _) h.lt)
theorem rot_eq (a k:Nat)(ha:W64 a):bits BinOp.or IntKind.u64 (IntKind.u64.wrap ((a:Int)*2 ^ k)) ((a:Int) / 2 ^ (64 - k))=((rot a k:Nat):Int):=by
 have e1:IntKind.u64.wrap ((a:Int)*2 ^ k)=((a*2 ^ k % 18446744073709551616:Nat):Int):=by
  rw[IntKind.wrap_u64,Int.natCast_emod,Int.natCast_mul,Int.natCast_pow];rfl
 have e2:(a:Int) / 2 ^ (64 - k)=((a / 2 ^ (64 - k):Nat):Int):=by
  rw[Int.natCast_ediv,Int.natCast_pow];rfl
 rw[e1,e2,u64_or_nat _ _ (Nat.mod_lt _ (by omega)) (Nat.lt_of_le_of_lt (Nat.div_le_self _ _) ha.lt)]
 rfl
theorem and63 (k:Nat)(hk:k<64):bits BinOp.and IntKind.u64 (k:Int) 63=(k:Int):=by
 have:=u64_and_nat k 63 (by omega) (by omega)
 rw[nat_mask6,Nat.mod_eq_of_lt hk] at this
 exact this
theorem xor_u64 (a b:Nat)(ha:W64 a)(hb:W64 b):bits BinOp.xor IntKind.u64 (a:Int) (b:Int)=((a ^^^ b:Nat):Int):=u64_xor_nat a b ha.lt hb.lt
def updK (f:Nat→Nat)(k v:Nat):Nat→Nat:=fun j=>if j=k then v else f j
def arr (n:Nat)(f:Nat→Nat):Array Value:=((List.range n).map fun j=>Value.int .u64 (f j:Nat)).toArray
theorem arr_size (n:Nat)(f:Nat→Nat):(arr n f).size=n:=by simp[arr]
theorem arr_get (n:Nat)(f:Nat→Nat)(j:Nat)(h:j<n):(arr n f)[j]? = some (.int .u64 (f j:Nat)):=by simp[arr,h]
theorem arr_set (n:Nat)(f:Nat→Nat)(k v:Nat):(arr n f).setIfInBounds k (.int .u64 (v:Nat))=arr n (updK f k v):=by
 apply Array.ext_getElem?
 intro j
 rw[Array.getElem?_setIfInBounds]
 by_cases hn:j<n
 ·rw[arr_get n (updK f k v) j hn]
  by_cases e:k=j
  ·subst e;simp[arr_size,hn,updK]
  ·rw[if_neg e,arr_get n f j hn];simp[updK,Ne.symm e]
 ·rw[Array.getElem?_eq_none (by rw[arr_size];omega)]
  by_cases e:k=j
  ·subst e;simp[arr_size,hn]
  ·rw[if_neg e,Array.getElem?_eq_none (by rw[arr_size];omega)]
theorem arr_congr (n:Nat)(f g:Nat→Nat)(h:∀j,j<n→f j=g j):arr n f=arr n g:=by
 unfold arr
 congr 1
 apply List.map_congr_left
 intro j hj
 rw[h j (by simpa using hj)]
def At (w:World)(b:Nat)(t:TypeId)(n:Nat)(f:Nat→Nat):Prop:=w.heap[b]? = some (.cells (arr n f) t (0,0))
section
variable {w:World} {b:Nat} {t:TypeId} {n:Nat} {f:Nat→Nat}
theorem At.lt (h:At w b t n f):b<w.heap.size:=(aGe.1 h).1
theorem At.cell (h:At w b t n f)(j:Nat)(hj:j<n):w.cell? ⟨b,j,none⟩=some (.int .u64 (f j:Nat)):=by
 rw[cell_of_row w b j (arr n f) t (0,0) h,arr_get n f j hj]
theorem At.free (h:At w b t n f)(j:Nat):w.frozen? ⟨b,j,none⟩=false:=by
 have h' : w.heap[b]? = some (.cells (arr n f) t (0,0)):=h
 simp[World.frozen?,h']
theorem heap_setCell_at {cs:Array Value}{fr:Nat×Nat}(h:w.heap[b]? = some (.cells cs t fr))(j:Nat)(u:Value):(w.setCell ⟨b,j,none⟩ u).heap[b]? = some (.cells (cs.setIfInBounds j u) t fr):=by
 simp only[World.setCell,Array.getElem?_modify,if_true,h,Option.map_some]
 simp
theorem At.set (h:At w b t n f)(k v:Nat):At (w.setCell ⟨b,k,none⟩ (.int .u64 (v:Nat))) b t n (updK f k v):=by
 unfold At
 rw[heap_setCell_at h,arr_set]
theorem At.other (h:At w b t n f){c:Nat}(hc:c≠b)(k:Nat)(u:Value):At (w.setCell ⟨c,k,none⟩ u) b t n f:=by
 unfold At
 rw[Below.heap_setCell _ _ _ _ (by simpa using Ne.symm hc)];exact h
theorem At.congr (h:At w b t n f){g:Nat→Nat}(he:∀j,j<n→f j=g j):At w b t n g:=by
 unfold At;rw[←arr_congr n f g he];exact h
theorem At.alloc (h:At w b t n f)(o:Obj):At (w.alloc o) b t n f:=by
 unfold At;rw[Below.heap_alloc _ _ _ h.lt];exact h
theorem At.grown {w' : World}{row:Option Nat}(h:At w b t n f)(hg:w.grownBy w' row)(hne:some b≠row):At w' b t n f:=by
 unfold At;rw[hg.block b h.lt hne];exact h
end
def colTo (f:Nat→Nat):Nat→Nat→Nat
 | 0,_=>0
 | k+1,x=>if k % 5=x then colTo f k x ^^^ f k else colTo f k x
theorem colTo_w {f:Nat→Nat}(h:∀j,W64 (f j)):∀k x,W64 (colTo f k x)
 | 0,_=>by unfold W64;simp[colTo]
 | k+1,x=>by
   simp only[colTo]
   split
   ·exact W64.xor (colTo_w h k x) (h k)
   ·exact colTo_w h k x
theorem colTo_succ (f:Nat→Nat)(k:Nat):∀x,updK (colTo f k) (k % 5) (colTo f k (k % 5) ^^^ f k) x=colTo f (k+1) x:=by
 intro x
 simp only[updK,colTo]
 by_cases h:x=k % 5
 ·rw[if_pos h,if_pos h.symm,h]
 ·rw[if_neg h,if_neg (fun e=>h e.symm)]
def upTo (k:Nat)(g f:Nat→Nat):Nat→Nat:=fun j=>if j<k then g j else f j
theorem upTo_succ (k:Nat)(g f:Nat→Nat):∀j,updK (upTo k g f) k (g k) j=upTo (k+1) g f j:=by
 intro j
 simp only[updK,upTo]
 by_cases h:j=k
 ·subst h;simp
 ·rw[if_neg h]
  by_cases h2:j<k
  ·rw[if_pos h2,if_pos (by omega)]
  ·rw[if_neg h2,if_neg (by omega)]
theorem upTo_zero (g f:Nat→Nat):∀j,f j=upTo 0 g f j:=by intro j;simp[upTo]
theorem upTo_full (k:Nat)(g f:Nat→Nat):∀j,j<k→upTo k g f j=g j:=by intro j h;simp[upTo,h]
theorem upTo_w {k:Nat}{g f:Nat→Nat}(hg:∀j,W64 (g j))(hf:∀j,W64 (f j)):∀j,W64 (upTo k g f j):=by
 intro j;unfold upTo;split
 ·exact hg j
 ·exact hf j
theorem upTo_at (k:Nat)(g f:Nat→Nat):upTo k g f k=f k:=by simp[upTo]
theorem grown_drewN {w w' : World}{row:Option Nat}(h:w.grownBy w' row)(n:Nat):w.grownBy (w'.drewN n) row:=⟨h.os,h.tape,h.output,h.size,h.block⟩
theorem grown_set {w w' : World}{row:Option Nat}(h:w.grownBy w' row)(b j:Nat)(u:Value)(hb:w.heap.size≤b∨row=some b):w.grownBy (w'.setCell ⟨b,j,none⟩ u) row:=by
 refine⟨h.os,h.tape,h.output,by have:=h.size;simp[World.setCell];omega,fun k hk hne=>?_⟩
 rw[Below.heap_setCell _ _ _ _ (by
  intro e
  have e:k=b:=e
  subst e
  rcases hb with h1|h1
  ·omega
  ·exact hne h1.symm)]
 exact h.block k hk hne
theorem grown_alloc {w w' : World}{row:Option Nat}(h:w.grownBy w' row)(o:Obj):w.grownBy (w'.alloc o) row :=
 ⟨h.os,h.tape,h.output,by have:=h.size;simp;omega,fun k hk hne=>by rw[Below.heap_alloc _ _ _ (by have:=h.size;omega)];exact h.block k hk hne⟩
def thetaF (f:Nat→Nat):Nat→Nat:=fun j=>f j ^^^ (colTo f 25 ((j % 5+4) % 5) ^^^ rot (colTo f 25 ((j % 5+1) % 5)) 1)
def tu (j:Nat):Nat:=[0,1,62,28,27,36,44,6,55,20,3,10,43,25,39,41,45,15,21,8,18,2,61,56,14].getD j 0
def rc (j:Nat):Nat:=[1,32898,9223372036854808714,9223372039002292224,32907,2147483649,9223372039002292353,9223372036854808585,138,136,2147516425,2147483658,2147516555,9223372036854775947,9223372036854808713,9223372036854808579,9223372036854808578,9223372036854775936,32778,9223372039002259466,9223372039002292353,9223372036854808704,2147483649,9223372039002292232].getD j 0
theorem rc_w (j:Nat):W64 (rc j):=by
 by_cases h:j<24
 ·have:∀i:Fin 24,decide (rc i.val<18446744073709551616)=true:=by decide +kernel
  have h2:rc j<18446744073709551616:=of_decide_eq_true (this ⟨j,h⟩)
  exact h2
 ·unfold W64 rc
  rw[List.getD_eq_getElem?_getD,List.getElem?_eq_none (by simp;omega)]
  simp
theorem tu_lt (j:Nat):tu j<64:=by
 by_cases h:j<25
 ·have:∀i:Fin 25,decide (tu i.val<64)=true:=by decide +kernel
  exact of_decide_eq_true (this ⟨j,h⟩)
 ·unfold tu
  rw[List.getD_eq_getElem?_getD,List.getElem?_eq_none (by simp;omega)]
  simp
def dest (i:Nat):Nat:=i / 5+5 * ((2 * (i % 5)+3 * (i / 5)) % 5)
def rpTo (f:Nat→Nat):Nat→Nat→Nat
 | 0=>fun _=>0
 | k+1=>updK (rpTo f k) (dest k) (rot (f k) (tu k))
theorem updK_w {f:Nat→Nat}{k v:Nat}(h:∀j,W64 (f j))(hv:W64 v):∀j,W64 (updK f k v j):=by
 intro j;unfold updK;split
 ·exact hv
 ·exact h j
theorem rpTo_w {f:Nat→Nat}(h:∀j,W64 (f j)):∀k j,W64 (rpTo f k j)
 | 0,_=>by unfold W64;simp[rpTo]
 | k+1,j=>updK_w (rpTo_w h k) (rot_w (h k) _) j
theorem thetaF_w {f:Nat→Nat}(h:∀j,W64 (f j))(j:Nat):W64 (thetaF f j):=W64.xor (h j) (W64.xor (colTo_w h _ _) (rot_w (colTo_w h _ _) _))
def chiF (f:Nat→Nat):Nat→Nat:=fun j=>f j ^^^ ((18446744073709551615 - f (j - j % 5+(j % 5+1) % 5)) &&& f (j - j % 5+(j % 5+2) % 5))
theorem chiF_w {f:Nat→Nat}(h:∀j,W64 (f j))(j:Nat):W64 (chiF f j):=W64.xor (h j) (W64.and (by unfold W64;omega))
def iotaF (f:Nat→Nat)(r:Nat):Nat→Nat:=updK f 0 (f 0 ^^^ rc r)
def roundF (f:Nat→Nat)(r:Nat):Nat→Nat:=iotaF (chiF (rpTo (thetaF f) 25)) r
theorem roundF_w {f:Nat→Nat}(h:∀j,W64 (f j))(r j:Nat):W64 (roundF f r j) :=
 updK_w (chiF_w (rpTo_w (thetaF_w h) 25)) (W64.xor (chiF_w (rpTo_w (thetaF_w h) 25) 0) (rc_w r)) j
def permTo (f:Nat→Nat):Nat→Nat→Nat
 | 0=>f
 | k+1=>roundF (permTo f k) k
theorem permTo_w {f:Nat→Nat}(h:∀j,W64 (f j)):∀k j,W64 (permTo f k j)
 | 0,j=>h j
 | k+1,j=>roundF_w (permTo_w h k) k j
end Go.Proofs.YthdjmldddjljfaaGreatDoor
