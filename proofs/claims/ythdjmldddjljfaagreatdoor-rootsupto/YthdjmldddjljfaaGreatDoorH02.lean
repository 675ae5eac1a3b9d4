/-
  OUR OWN.
-/
import Derived.WalkKit
import Derived.WalkSpells
import Derived.WalkLawsBesides
import Derived.Deep.AppendLies
import Derived.Laws.AppendOwnNone
set_option maxHeartbeats 8000000
set_option maxRecDepth 20000
namespace Go.Proofs.YthdjmldddjljfaaGreatDoor
open Go.RowKit
theorem aGe {α:Type _}{xs:Array α}{i:Nat}{b:α}:xs[i]? = some b↔∃h:i<xs.size,xs[i]=b:=Array.getElem?_eq_some_iff
theorem hide {p:Prop}(h:p):Hid p:=h
theorem ret_int {k:IntKind}{a b:Int}(h:a=b):Ending.returned (.int k a)=.returned (.int k b):=by rw[h]
theorem ret_bool {a b:Bool}(h:a=b):Ending.returned (.bool a)=.returned (.bool b):=by rw[h]
theorem addr_add (b off j:Nat):(⟨b,off,none⟩:Addr).add j=⟨b,off+j,none⟩:=by unfold Addr.add;split<;>simp_all
theorem row_ge {B g n c:Nat}(h:B≤g):∀k,(Value.slice (some ⟨g,0,none⟩) n c).ownBlock=some k→B≤k:=by
 intro k hk;simp[Value.ownBlock] at hk;omega
theorem own_ge {w:World}{base e size n:Nat}{v:Value}{xs:List Value}(h:w.ownsRow base e size v n xs){B:Nat}(hB:B≤base):∀k,v.ownBlock=some k→B≤k :=
 fun k hk=>Nat.le_trans hB (h.lt k hk).1
def Reads (w:World)(v:Value)(n:Nat)(xs:List Value):Prop :=
 (v=.slice none 0 0∧n=0∧xs=[])∨∃ad cap,v=.slice (some ad) n cap∧∀j u,xs[j]? = some u→w.cell? (ad.add j)=some u
section
variable {P:Program} {w:World}
theorem wpList_append_reads {ops:Array Oper}{rest:List Oper}{o:Oper}{a:Act}{Q:Exit→Act→World→Prop}(hgd:o.guard=none)(s x:Operand)(t:TypeId)
  (ho:o.op=.call { callee:=.builtin .append,args:=#[s,x],argTypes:=#[t,t] })
  (base:Nat) (e:TypeId) (i:TypeInfo) (z:Value) (size bytes:Nat) (ht:P.underlying t=some (.slice e)) (hi:P.info? e=some i) (hz:i.zero=some z)
  (hsize:i.size=size) (hby:i.bytes=bytes) (hzs:z.cells.size=size) (hsz:0 < size)
  (v:Value) (n:Nat) (xs:List Value) (hs:a.eval s=v) (hown:w.ownsRow base e size v n xs)
  (sv:Value) (m:Nat) (news:List Value) (hx:a.eval x=sv) (hr:Reads w sv m news) (hl:news.length=m*size) (h1:∀u∈news,u.oneCell' = true)
  (h63:n+m≤maxLen) (hbytes:(n+m)*bytes≤140737488355328) (hbase:base≤w.heap.size)
  (h:∀v' w', w'.ownsRow base e size v' (n+m) (xs++news)→w.grownBy w' v.ownBlock→wpList P ops Q rest (a.put o.dst v') w'):wpList P ops Q (o :: rest) a w:=by
 rcases hr with⟨rfl,rfl,rfl⟩|⟨ad,cap,rfl,hc⟩
 ·refine wpList_append_own_none hgd s x t ho base e i size ht hi v n xs hs hown hx ?_
  exact h v w (by simpa using hown) ⟨rfl,rfl,rfl,Nat.le_refl _,fun _ _ _=>rfl⟩
 ·exact wpList_append_own w hgd s x t ho base e i z size bytes ht hi hz hsize hby hzs hsz v n xs hs hown ad m cap news hx hl hc h1 h63 hbytes hbase (fun v' w' a b _=>h v' w' a b)
end
theorem Reads.keep {w w' : World}{v:Value}{n:Nat}{xs:List Value}(h:Reads w v n xs)(hb:Below w.heap.size w w'):Reads w' v n xs:=by
 rcases h with h|⟨ad,cap,h1,h2⟩
 ·exact .inl h
 ·refine .inr ⟨ad,cap,h1,fun j u hu=>?_⟩
  have h3:=h2 j u hu
  rw[hb.cell (p:=ad.add j) (World.block_lt_of_cell? w _ h3)]
  exact h3
theorem below_alloc (w:World)(o:Obj):Below w.heap.size w (w.alloc o):=(Below.refl _ _).alloc (Nat.le_refl _) _
theorem below_alloc2 (w:World)(o o' : Obj):Below w.heap.size w ((w.alloc o).alloc o'):=(below_alloc w o).alloc (by simp) _
def nib (n:Int):Bool:=decide (0≤n) && decide (n≤15)
def isP (zs:List Int):Bool:=decide (zs.length≤128) && zs.all nib
theorem all_take_succ (f:Int→Bool)(zs:List Int)(k:Nat)(h:k<zs.length):(zs.take (k+1)).all f=((zs.take k).all f && f (zs.getD k 0)):=by
 rw[List.take_succ_eq_append_getElem h,List.all_append]
 simp[List.getD_eq_getElem?_getD,h]
theorem isP_bad {zs:List Int}{k:Nat}(h:k<zs.length)(hb:nib (zs.getD k 0)=false):isP zs=false:=by
 have:zs.all nib=false:=by
  rw[List.all_eq_false]
  refine⟨zs[k],List.getElem_mem h,?_⟩
  simpa[List.getD_eq_getElem?_getD,h] using hb
 simp[isP,this]
theorem isP_good {zs:List Int}(h:zs.length≤128)(ha:(zs.take zs.length).all nib=true):isP zs=true:=by
 rw[List.take_length] at ha
 simp[isP,h,ha]
def pairUp:List Int→List Int
 | a :: b :: r=>(16 * a+b) :: pairUp r
 | _=>[]
theorem pairUp_length:∀(n:Nat) (zs:List Int),zs.length=2 * n→(pairUp zs).length=n
 | 0,[],_=>rfl
 | n+1,a :: b :: r,h=>by
   simp only[pairUp,List.length_cons]
   rw[pairUp_length n r (by simp at h;omega)]
 | 0,_ :: _,h=>by simp at h
 | n+1,[],h=>by simp at h
 | n+1,[_],h=>by simp at h;omega
theorem pairUp_getD:∀(n k:Nat) (zs:List Int),zs.length=2 * n→k<n→(pairUp zs).getD k 0=16 * zs.getD (2 * k) 0+zs.getD (2 * k+1) 0
 | n+1,0,a :: b :: r,h,_=>by simp[pairUp]
 | n+1,k+1,a :: b :: r,h,hk=>by
   have:=pairUp_getD n k r (by simp at h;omega) (by omega)
   simp only[pairUp,List.getD_cons_succ,this]
   rw[show 2 * (k+1)=(2 * k+1)+1 from by omega]
   simp only[List.getD_cons_succ]
 | 0,_,_,_,hk=>by omega
 | n+1,_,[],h,_=>by simp at h
 | n+1,_,[_],h,_=>by simp at h;omega
theorem or_nib_fin:∀x y:Fin 16,bits BinOp.or IntKind.i64 ((x.val:Int)*16) (y.val:Int) % 256=16 * (x.val:Int)+(y.val:Int):=by decide +kernel
theorem or_nib (x y:Int)(x1:0≤x)(x2:x≤15)(y1:0≤y)(y2:y≤15):bits BinOp.or IntKind.i64 (x*16) y % 256=16 * x+y:=by
 obtain⟨a,rfl⟩:=Int.eq_ofNat_of_zero_le x1
 obtain⟨b,rfl⟩:=Int.eq_ofNat_of_zero_le y1
 exact or_nib_fin ⟨a,by omega⟩ ⟨b,by omega⟩
def mk (leaf:Bool):Int:=if leaf then 2 else 0
def halvesOf (leaf:Bool)(zs:List Int):List Int:=if zs.length % 2=1 then (mk leaf+1) :: zs else mk leaf :: 0 :: zs
theorem halvesOf_odd {leaf:Bool}{zs:List Int}(h:zs.length % 2=1):halvesOf leaf zs=(mk leaf+1) :: zs:=by simp[halvesOf,h]
theorem halvesOf_even {leaf:Bool}{zs:List Int}(h:zs.length % 2=0):halvesOf leaf zs=mk leaf :: 0 :: zs:=by simp[halvesOf,h]
theorem halvesOf_length (leaf:Bool)(zs:List Int):(halvesOf leaf zs).length=2 * (zs.length / 2+1):=by
 unfold halvesOf;split<;>simp<;>omega
end Go.Proofs.YthdjmldddjljfaaGreatDoor
