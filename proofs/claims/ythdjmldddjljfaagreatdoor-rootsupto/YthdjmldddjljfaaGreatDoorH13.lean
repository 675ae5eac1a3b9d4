/-
  OUR OWN.
-/
import Derived.Test.YthdjmldddjljfaaGreatDoorH08
import Derived.Test.YthdjmldddjljfaaGreatDoorH05
import Derived.Deep.RegionHeld3
import Derived.Deep.DrawnRows
set_option maxHeartbeats 8000000
set_option maxRecDepth 20000
namespace Go.Proofs.YthdjmldddjljfaaGreatDoor
open Go.RowKit
attribute [local go_sem ↓] Go.wp_at_zero Go.wp_at_succ
def nibs:List UInt8→List Int
 | []=>[]
 | b :: r=>(b.toNat:Int) / 16 :: (b.toNat:Int) % 16 :: nibs r
theorem nibs_length (l:List UInt8):(nibs l).length=2 * l.length:=by
 induction l with
 | nil=>rfl
 | cons b r ih=>simp[nibs,ih];omega
theorem nibs_append (l m:List UInt8):nibs (l++m)=nibs l++nibs m:=by
 induction l with
 | nil=>rfl
 | cons b r ih=>simp[nibs,ih]
theorem take_snoc (s:ByteArray)(k:Nat)(h:k<s.size):s.data.toList.take (k+1)=s.data.toList.take k++[s[k]]:=by
 rw[List.take_succ_eq_append_getElem (by simpa using h)];rfl
theorem nibs_snoc (s:ByteArray)(k:Nat)(h:k<s.size):(nibs (s.data.toList.take (k+1))).map (Value.int .i64)=(nibs (s.data.toList.take k)).map (Value.int .i64)++[.int .i64 ((s[k].toNat:Int) / 16),.int .i64 ((s[k].toNat:Int) % 16)]:=by
 rw[take_snoc s k h,nibs_append];simp[nibs]
theorem and15_fin:∀b:Fin 256,bits BinOp.and IntKind.u8 (b.val:Int) 15=(b.val:Int) % 16:=by decide +kernel
theorem and15 (b:UInt8):bits BinOp.and IntKind.u8 (b.toNat:Int) 15=(b.toNat:Int) % 16:=and15_fin ⟨b.toNat,b.toNat_lt⟩
theorem conv_own {w:World}{base n:Nat}{v:Value}{bs:List Int}(h:w.ownsRow base 5 1 v n (bs.map (Value.int .u8))) :
  (convert 144 9 v).run Tryz.prog w=.ok (.string (strOfNums bs)) w:=by
 have hl:bs.length=n:=by simpa using h.1
 rcases h.2 with⟨rfl,rfl⟩|⟨g,cap,cur,rfl,_⟩
 ·obtain rfl:bs=[]:=List.length_eq_zero_iff.1 hl
  exact run_convert_bytes_nil (P:=Tryz.prog) w 144 5 Tryz.underlying144 Tryz.underlying5 0 0 9 Tryz.underlying9
 ·refine run_convert_bytes_arg (P:=Tryz.prog) w 144 5 Tryz.underlying144 Tryz.underlying5 g 0 n cap bs hl ?_ 9 Tryz.underlying9
  intro i hi
  have:=h.cells (g:=g) rfl i (.int .u8 (bs.getD i 0)) (by simp[List.getD_eq_getElem?_getD,hl,hi])
  rw[←this,addr_add]
section
variable {P:Program} (w:World)
theorem run_append_roomy (base:Nat)(t ty e:TypeId)(i:TypeInfo)(z:Value)(size bytes:Nat)(ht:P.underlying t=some (.slice e))(hi:P.info? e=some i)(hz:i.zero=some z)
  (hsize:i.size=size) (hby:i.bytes=bytes) (hzs:z.cells.size=size) (hsz:0 < size)
  (g0 n cap0:Nat) (xs:List Value) (hown:w.ownsRow base e size (.slice (some ⟨g0,0,none⟩) n cap0) n xs)
  (ad:Addr) (m c:Nat) (news:List Value) (hl:news.length=m*size) (hnews:∀j u,news[j]? = some u→w.cell? (ad.add j)=some u) (h1:∀u∈news,u.oneCell' = true)
  (h63:n+m≤maxLen) (hbytes:(n+m)*bytes≤140737488355328) (hbase:base≤w.heap.size) (hroom:n+m≤cap0) :
  ∃w', (Builtin.append_ #[t,t] ty #[.slice (some ⟨g0,0,none⟩) n cap0,.slice (some ad) m c]).run P w=.ok (.slice (some ⟨g0,0,none⟩) (n+m) cap0) w' ∧
   w'.ownsRow base e size (.slice (some ⟨g0,0,none⟩) (n+m) cap0) (n+m) (xs++news)∧w.grownBy w' (some g0):=by
 obtain⟨v', w', hr,h2,h3,_,_⟩:=run_append_own_at (P:=P) w base t ty e i z size bytes ht hi hz hsize hby hzs hsz _ n xs hown ad m c news hl hnews h1 h63 hbytes hbase
 rcases hown.2 with⟨h,_⟩|⟨g,cap,cur,h,hb0,hg0,hn0,hc0,hs0,ht0⟩
 ·cases h
 ·obtain⟨rfl,rfl⟩:g0=g∧cap0=cap:=by simpa using h
  subst hsize
  subst hby
  have hr2:=run_append_room (P:=P) w t ty e i ht hi g0 n cap0 cur hg0 ad m c news hl hnews h1 hroom (by rw[hl,hs0,←Nat.add_mul];exact Nat.mul_le_mul_right _ hroom)
  rw[hr2] at hr
  injection hr with hv hw
  subst hv
  subst hw
  exact⟨_,hr2,h2,h3⟩
theorem step_append_run {ops:Array Oper}{o:Oper}{a:Act}{K:Act→World→Prop}{Q:Exit→Act→World→Prop}{E:Prop}(hgd:o.guard=none)(s x:Operand)(t:TypeId)
  (ho:o.op=.call { callee:=.builtin .append,args:=#[s,x],argTypes:=#[t,t] }) (v sv v' : Value) (w' : World) (hs:a.eval s=v) (hx:a.eval x=sv)
  (hr:(Builtin.append_ #[t,t] o.type #[v,sv]).run P w=.ok v' w') (h:K (a.put o.dst v') w') :
  if Region.wanted o (yielded ops a.tmps)=true then Oper.wp P o a w K Q else E:=by
 have hw:Region.wanted o (yielded ops a.tmps)=true:=by simp[Region.wanted,hgd]
 rw[if_pos hw]
 unfold Oper.wp
 simp only[execOp,ho,resolve,invoke,builtin,Sem.run_bind,Sem.run_pure,Result.andThen_ok,List.map_toArray,List.map_cons,List.map_nil,hs,hx,hr]
 exact h
end
set_option maxRecDepth 100000 in
theorem of_any (s:ByteArray)(w:World)(h:s.size≤1000) :
  Calls Tryz.prog 44 #[.string s] w fun e w' => ∃g,e=.returned (.slice (some ⟨g,0,none⟩) (2 * s.size) (2 * s.size))∧w'.ownsRow w.heap.size 3 1 (.slice (some ⟨g,0,none⟩) (2 * s.size) (2 * s.size)) (2 * s.size) ((nibs s.data.toList).map (Value.int .i64))∧Below w.heap.size w w' := by
 obtain⟨i0,hi,hz0,hz1,hz2⟩:=info_parts info3
 obtain⟨n,M,hn,hM,hmk⟩:∃(n:Nat) (M:Array Value),Hid (n=2 * s.size)∧Hid (M.size=n*1)∧∀w:World,(Instr.makeSlice 80 (.int .i64 0) (.int .i64 (2 * (s.size:Int)))).run Tryz.prog w =
  .ok (.slice (some ⟨w.heap.size,0,none⟩) 0 n) (w.alloc (.cells M 3)):=⟨2 * s.size,madeCells #[.int .i64 0] (2 * s.size),rfl,by simp[Hid,madeCells],fun w=>by have:=make_ints0 (2 * s.size) (by omega) w;simpa using this⟩
 have hown0:=hide (World.ownsRow_made (base:=w.heap.size) (e:=3) (size:=1) w M n (Nat.le_refl _) (by unfold maxLen;rw[hn.out];omega) hM.out)
 have hI:(s.size:Int)≤1000:=by omega
 go_enter Tryz.func44,Tryz.ntmps44
 go_wp2
 go_loopw [3,11] (fun v i wr=>∃k:Nat,k≤s.size∧i=.int .i64 (k:Int)∧v=.slice (some ⟨w.heap.size,0,none⟩) (2 * k) n∧wr.ownsRow w.heap.size 3 1 (.slice (some ⟨w.heap.size,0,none⟩) (2 * k) n) (2 * k) ((nibs (s.data.toList.take k)).map (Value.int .i64))∧Below w.heap.size w wr) (fun _ i _=>s.size - (intOf i).toNat)
 case atStart=>exact⟨0,Nat.zero_le _,rfl,rfl,hown0.out,below_alloc _ _⟩
 case round =>
  obtain⟨k,hk,rfl,rfl,hown,hbw⟩:=hrel
  by_cases hlt:k<s.size
  ·have HS:=hide (nibs_snoc s k hlt)
   have hb1:(0:Int)≤(s[k].toNat:Int):=by omega
   have hb2:(s[k].toNat:Int)<256:=by have:=s[k].toNat_lt;omega
   have hbt2:=and15 s[k]
   have HOW:=hide hown
   have HBW:=hide hbw
   clear hown hbw
   have b0:(0:Int)≤(k:Int):=by omega
   have b1:(k:Int)<(s.size:Int):=by omega
   have k2:IntKind.i64.wrap ((s[k].toNat:Int) / 16)=(s[k].toNat:Int) / 16:=by rw[IntKind.wrap_i64];omega
   have k3:IntKind.i64.wrap ((s[k].toNat:Int) % 16)=(s[k].toNat:Int) % 16:=by rw[IntKind.wrap_i64];omega
   have hroom:2 * k+2≤n:=by rw[hn.out];omega
   obtain⟨w3,hr3,ho3,hg3⟩:=run_append_roomy (P:=Tryz.prog) ((wr.alloc (.cells #[.int .i64 ((s[k].toNat:Int) / 16),.int .i64 ((s[k].toNat:Int) % 16)] 3)).drew) w.heap.size 80 80 3 i0 _ 1 8 Tryz.underlying80 hi hz0 hz1 hz2 rfl (by omega) w.heap.size (2 * k) n _ ((HOW.out.alloc _).drew)
    ⟨wr.heap.size,0,none⟩ 2 2 [.int .i64 ((s[k].toNat:Int) / 16),.int .i64 ((s[k].toNat:Int) % 16)] (by rfl) (World.news_of_block (cs:=#[.int .i64 ((s[k].toNat:Int) / 16),.int .i64 ((s[k].toNat:Int) % 16)]) (t:=3) (fr:=(0,0)) (heap_alloc_new wr _)) (by simp[Value.oneCell']) (by unfold maxLen;omega) (by omega) (by have:=HBW.out.size;simp;omega) hroom
   rw[←HS.out] at ho3
   have HO3:=hide ho3
   have HB3:Hid (Below w.heap.size w w3):=((HBW.out.alloc HBW.out.size _).drew).grown hg3 (by have:=HBW.out.size;simp;omega) (row_ge (n:=0) (c:=0) (Nat.le_refl w.heap.size))
   have HR3:=hide hr3
   clear ho3 hg3 hr3
   go_wp2
   go_region_held3 (fun _=>True) (first|trivial|go_keep)
    ((refine step_append_run _ (by rfl) _ _ _ (by rfl) _ _ _ w3 (by rfl) (by rfl) HR3.out ?_))
   all_goals
    go_wp2
    go_roundw
    case rel=>exact⟨k+1,by omega,by go_num,rfl,HO3.out,HB3.out⟩
    case measure=>simp[intOf];omega
  ·have hke:k=s.size:=by omega
   subst hke
   rw[List.take_of_length_le (by rw[Array.length_toList];exact Nat.le_refl _)] at hown
   have hn2:=hn.out
   subst hn2
   have HF:=hide hown
   have HBW:=hide hbw
   clear hown hbw
   go_wp2
   go_ret
   exact⟨w.heap.size,rfl,HF.out,HBW.out⟩
end Go.Proofs.YthdjmldddjljfaaGreatDoor
