/-
  OUR OWN.
-/
import Derived.Test.YthdjmldddjljfaaGreatDoorH37
set_option maxHeartbeats 8000000
set_option maxRecDepth 20000
namespace Go.Proofs.YthdjmldddjljfaaGreatDoor
open Go.RowKit
attribute [local go_sem ↓] Go.wp_at_zero Go.wp_at_succ
theorem Only.of_below {T:Nat}{w w' : World}(h:Below w.heap.size w w'):Only T w w' := ⟨h.os,h.tape,h.output,h.size,fun k hk _=>h.block k hk⟩
theorem Only.trans {T:Nat}{w w1 w2:World}(h:Only T w w1)(h2:Only T w1 w2):Only T w w2:=⟨h2.os.trans h.os,h2.tape.trans h.tape,h2.output.trans h.output,Nat.le_trans h.size h2.size,fun k hk hne=>(h2.block k (Nat.lt_of_lt_of_le hk h.size) hne).trans (h.block k hk hne)⟩
theorem TreeAt.wide {Hk:Nd→ByteArray→Prop}{ok:Nat→Prop}{w W w' : World}{T:Nat}{st:Value}{n:Nd}(h:TreeAt Hk (okTo ok W w') w' T st n)(hT:T<w.heap.size)(hb:w.heap.size≤W.heap.size)(hok:∀k,ok k→k<w.heap.size∧k≠T)(hs:W.heap.size≤w'.heap.size):TreeAt Hk (okTo ok w w') w' T st n:=by
 refine h.mono (fun k hk=>?_) (fun k hk=>?_)
 ·rcases hk with hk|hk
  ·exact .inl hk
  ·exact .inr ⟨by omega,hk.2⟩
 ·rcases hk with hk|hk
  ·have:=hok k hk;exact⟨by omega,this.2⟩
  ·exact⟨hk.2,by omega⟩
def ChPost (Hk:Nd→ByteArray→Prop)(ok:Nat→Prop)(T:Nat)(st:Value)(n:Nd)(w:World)(e:Ending)(w' : World):Prop:=e=.returned (.int .i64 0)∧Only T w w' ∧ TreeAt Hk (okTo ok w w') w' T st n
theorem tPut_any (Hk:Nd→ByteArray→Prop)(hnn:∀n g,Hk n g→n≠.nil)(ok:Nat→Prop)(T:Nat)(st:Value)(n:Nd)(ao:Option Addr)(cap:Nat)(ps:List Pr)(w:World)(hA:TreeAt Hk ok w T st n)(hO:TOk n)(hm:Prs w ao ps)(hb:∀p∈ps,p.1.size≤64∧p.2.size≤400)(hl:ps.length≤10000000000000) :
  Calls Tryz.prog 18 #[ptr T,.slice ao ps.length cap] w fun e w' => ChPost Hk ok T st (setAll n ps) w e w' := by
 have HA:=hide hA
 have HM:=hide hm
 have HB:=hide hb
 have HTl:=hide hA.lt
 have HCh:Hid (∀W,Below w.heap.size w W→W.heap[w.heap.size]? = some (.cells #[ptr T] 104 (0,0))→Calls Tryz.prog 41 #[ptr T,.slice ao ps.length cap,.func (.func 42) #[] #[ptr w.heap.size]] W fun e w' => ChPost Hk ok T st (setAll n ps) w e w'):=fun W hW hbx=>by
  refine (changeP_any Hk hnn ok T w.heap.size st n ao cap ps W (hA.keep hW) hO hbx (hm.keep hW) hb hl).mono ?_
  rintro e w' ⟨rfl,h1,h2⟩
  exact⟨rfl,(Only.of_below hW).trans h1,h2.wide hA.lt hW.size hA.blk h1.size⟩
 have HB0:Hid (Below w.heap.size w (w.alloc (.cells #[ptr T] 104))∧(w.alloc (.cells #[ptr T] 104)).heap[w.heap.size]? = some (.cells #[ptr T] 104 (0,0))):=⟨below_alloc _ _,heap_alloc_new w _⟩
 clear hA hO hm hb
 unfold ptr at *
 go_enter Tryz.func18,Tryz.ntmps18
 go_wp2_with fail
 generalize World.alloc w _=W0 at *
 go_loopw [11] (fun iv wr=>∃i:Nat,i≤ps.length∧iv=.int .i64 (i:Int)∧Hid (Below W0.heap.size W0 wr)) (fun iv _=>ps.length - (intOf iv).toNat)
 case atStart=>exact⟨0,by omega,rfl,Below.refl _ _⟩
 case round =>
  obtain⟨i,hi,rfl,HW⟩:=hrel
  by_cases hlt:i<ps.length
  ·have j0:(0:Int)≤(i:Int):=by omega
   have j1:(i:Int)<(ps.length:Int):=by omega
   obtain⟨g,o,rfl,e1,e2⟩:=(HM.out.keep HB0.out.1).keep HW.out i hlt
   have hin:=HB.out _ (getD_in (d:=pr0) hlt)
   generalize ps.getD i pr0=x at *
   obtain⟨xk,xv⟩:=x
   simp only at e1 e2 hin
   have k1:(xk.size:Int)≤64:=by omega
   have HW2:Hid (Below W0.heap.size W0 (wr.alloc (.cells #[.string xk,.string xv] 33))):=HW.out.alloc HW.out.size _
   clear hin
   go_wp2
   go_roundw
   case rel=>exact⟨i+1,by omega,by go_num,HW2⟩
   case measure=>simp[intOf];omega
  ·obtain rfl:i=ps.length:=by omega
   have HBW:Hid (Below w.heap.size w wr∧wr.heap[w.heap.size]? = some (.cells #[.pointer (some ⟨T,0,none⟩)] 104 (0,0))):=⟨HB0.out.1.trans (HW.out.mono HB0.out.1.size),(HW.out.block _ (aGe.1 HB0.out.2).1).trans HB0.out.2⟩
   obtain⟨W1,rfl⟩:∃W1:World,W1=wr:=⟨_,rfl⟩
   clear HW
   go_wp2_with fail
   go_loopw [22] (fun iv wr=>∃i:Nat,i≤ps.length∧iv=.int .i64 (i:Int)∧Hid (Below W1.heap.size W1 wr)) (fun iv _=>ps.length - (intOf iv).toNat)
   case atStart=>exact⟨0,by omega,rfl,Below.refl _ _⟩
   case round =>
    obtain⟨i,hi,rfl,HW⟩:=hrel
    by_cases hlt:i<ps.length
    ·have j0:(0:Int)≤(i:Int):=by omega
     have j1:(i:Int)<(ps.length:Int):=by omega
     obtain⟨g,o,rfl,e1,e2⟩:=(HM.out.keep HBW.out.1).keep HW.out i hlt
     have hin:=HB.out _ (getD_in (d:=pr0) hlt)
     generalize ps.getD i pr0=x at *
     obtain⟨xk,xv⟩:=x
     simp only at e1 e2 hin
     have k1:(xv.size:Int)≤400:=by omega
     have HW2:Hid (Below W1.heap.size W1 (wr.alloc (.cells #[.string xk,.string xv] 33))):=HW.out.alloc HW.out.size _
     clear hin
     go_wp2
     go_roundw
     case rel=>exact⟨i+1,by omega,by go_num,HW2⟩
     case measure=>simp[intOf];omega
    ·obtain rfl:i=ps.length:=by omega
     have HBV:Hid (Below w.heap.size w wr∧wr.heap[w.heap.size]? = some (.cells #[.pointer (some ⟨T,0,none⟩)] 104 (0,0))):=⟨HBW.out.1.trans (HW.out.mono HBW.out.1.size),(HW.out.block _ (aGe.1 HBW.out.2).1).trans HBW.out.2⟩
     have cb:wr.cell? ⟨w.heap.size,0,none⟩=some (.pointer (some ⟨T,0,none⟩)):=cell_of_row _ _ 0 _ _ (0,0) HBV.out.2
     have HCC:=hide (HCh.out wr HBV.out.1 HBV.out.2)
     go_wp2_with fail
     refine HCC.out.mono ?_
     rintro e w5 ⟨rfl,h1,h2⟩
     have HX:=hide (And.intro h1 h2)
     clear h1 h2
     go_wp2
     go_ret
     exact⟨rfl,HX.out.1,HX.out.2⟩
theorem cPut_any (Hk:Nd→ByteArray→Prop)(hnn:∀n g,Hk n g→n≠.nil)(ok:Nat→Prop)(T:Nat)(st:Value)(n:Nd)(ao:Option Addr)(cap:Nat)(ps:List Pr)(w:World)(hA:TreeAt Hk ok w T st n)(hO:TOk n)(hm:Prs w ao ps)(hb:∀p∈ps,p.1.size≤64∧p.2.size≤400)(hl:ps.length≤10000000000000) :
  Calls Tryz.prog 10 #[ptr T,.slice ao ps.length cap] w fun e w' => ChPost Hk ok T st (setAll n ps) w e w' := by
 have HP:=hide (tPut_any Hk hnn ok T st n ao cap ps w hA hO hm hb hl)
 clear hA hO hm hb
 unfold ptr at *
 go_enter Tryz.func10,Tryz.ntmps10
 go_wp2_with fail
 refine HP.out.mono ?_
 rintro e w5 ⟨rfl,h1,h2⟩
 have HX:=hide (And.intro h1 h2)
 clear h1 h2
 go_wp2
 go_ret
 exact⟨rfl,HX.out.1,HX.out.2⟩
theorem gotE_form (A:ByteArray):∃(s:ByteArray) (er:Int),gotE A=.returned (.tuple #[.string s,.int .i64 er])∧(s=e0∨s=A):=by
 unfold gotE
 split
 ·exact⟨e0,10,rfl,.inl rfl⟩
 ·exact⟨A,0,rfl,.inr rfl⟩
theorem tGet_any (Hk:Nd→ByteArray→Prop)(ok:Nat→Prop)(T:Nat)(st:Value)(n:Nd)(key:ByteArray)(w:World)(hA:TreeAt Hk ok w T st n)(hO:TOk n)(hk:key.size≤64) :
  Calls Tryz.prog 73 #[ptr T,.string key] w fun e w' => e=gotE (n.look (pathN key))∧Below w.heap.size w w' := by
 have hTl:=hA.lt
 have hok:=hA.blk
 obtain⟨u,hT,hn⟩:=hA.held
 have HC:Hid (∀W,Below w.heap.size w W→W.cell? ⟨T,0,none⟩=some st∧W.cell? ⟨T,1,none⟩=some u∧W.cell? ⟨T,2,none⟩=some (.string e0)):=fun W hW=>by
  have h:=(hW.block T hTl).trans hT
  exact⟨cell_of_row _ _ 0 _ _ (0,0) h,cell_of_row _ _ 1 _ _ (0,0) h,cell_of_row _ _ 2 _ _ (0,0) h⟩
 have HOf:Hid (∀W,Below w.heap.size w W→Calls Tryz.prog 44 #[.string key] W fun e w' => ∃g,e=.returned (.slice (some ⟨g,0,none⟩) (pathN key).length (2 * key.size))∧Nums w' (some ⟨g,0,none⟩) (pathN key)∧Below w.heap.size w w'):=fun W hW=>by
  refine (of_nums key W (by omega)).mono ?_
  rintro e w' ⟨g,rfl,h1,_,h2⟩
  exact⟨g,rfl,h1,hW.trans (h2.mono hW.size)⟩
 obtain⟨s,er,hE,hs⟩:=gotE_form (n.look (pathN key))
 have HG:Hid (∀W g,Below w.heap.size w W→Nums W (some ⟨g,0,none⟩) (pathN key)→Calls Tryz.prog 77 #[.func (.func 78) #[st] #[],.agg #[u,.string e0],.slice (some ⟨g,0,none⟩) (pathN key).length (2 * key.size)] W fun e w' => e=.returned (.tuple #[.string s,.int .i64 er])∧Below w.heap.size w w'):=fun W g hW hnu=>by
  refine (get_any Hk ok st n u e0 g 0 (2 * key.size) (pathN key) W (fun k hk=>Nat.lt_of_lt_of_le (hok k hk).1 hW.size) (hn.keep hW) (fun _=>rfl) hO.wf hnu (by rw[pathN_length];exact Nat.le_refl _) (by rw[pathN_length];omega) (pathN_lt key) (Len_mono n hO.len (by omega))).mono ?_
  rintro e w' ⟨rfl,h2⟩
  exact⟨hE,hW.trans (h2.mono hW.size)⟩
 have HSz:Hid (s.size≤400):=by
  rcases hs with rfl|rfl
  ·show 0≤400;omega
  ·exact hO.vb _
 have HE:=hide hE
 have hnd:=hn.isNd
 have k1:(key.size:Int)≤64:=by omega
 obtain⟨c0,c1,c2⟩:=HC.out w (Below.refl _ _)
 clear hA hO hn hT hE hs hok
 rcases hnd with rfl|⟨t,b,rfl⟩
 ·unfold ptr at *
  go_enter Tryz.func73,Tryz.ntmps73
  go_wp2_with fail
  go_region_held3 (fun W=>W.cell? ⟨T,0,none⟩=some st∧W.cell? ⟨T,1,none⟩=some .nilIface∧W.cell? ⟨T,2,none⟩=some (.string e0)) (first|go_keep|(simp[*])) ((first
   | (go_at_call 44;refine (HOf.out _ (by first|exact (Below.refl _ _).drew|exact Below.refl _ _)).mono ?_;rintro e w2 ⟨g,rfl,hnu,hb2⟩;(have HN2:=hide hnu);(have HB2:=hide hb2);(obtain⟨d0,d1,d2⟩:=HC.out w2 hb2);clear hnu hb2)
   | (go_at_call 77;refine (HG.out _ g HB2.out HN2.out).mono ?_;rintro e w3 ⟨rfl,hb3⟩;(have HB3:=hide hb3);(obtain⟨i0,i1,i2⟩:=HC.out w3 hb3);clear hb3)))
  all_goals
   go_wp2_with fail
   refine (clone_any s _ (by have:=HSz.out;omega)).mono ?_
   rintro e w4 ⟨rfl,hb4⟩
   go_wp2
   go_ret2
   exact⟨HE.out.symm,by first|exact HB3.out.trans (hb4.mono HB3.out.size)|exact HB3.out.drew.trans (hb4.mono HB3.out.drew.size)⟩
 ·unfold ptr at *
  go_enter Tryz.func73,Tryz.ntmps73
  go_wp2_with fail
  go_region_held3 (fun W=>W.cell? ⟨T,0,none⟩=some st∧W.cell? ⟨T,1,none⟩=some (.iface t (.pointer (some ⟨b,0,none⟩)))∧W.cell? ⟨T,2,none⟩=some (.string e0)) (first|go_keep|(simp[*])) ((first
   | (go_at_call 44;refine (HOf.out _ (by first|exact (Below.refl _ _).drew|exact Below.refl _ _)).mono ?_;rintro e w2 ⟨g,rfl,hnu,hb2⟩;(have HN2:=hide hnu);(have HB2:=hide hb2);(obtain⟨d0,d1,d2⟩:=HC.out w2 hb2);clear hnu hb2)
   | (go_at_call 77;refine (HG.out _ g HB2.out HN2.out).mono ?_;rintro e w3 ⟨rfl,hb3⟩;(have HB3:=hide hb3);(obtain⟨i0,i1,i2⟩:=HC.out w3 hb3);clear hb3)))
  all_goals
   go_wp2_with fail
   refine (clone_any s _ (by have:=HSz.out;omega)).mono ?_
   rintro e w4 ⟨rfl,hb4⟩
   go_wp2
   go_ret2
   exact⟨HE.out.symm,by first|exact HB3.out.trans (hb4.mono HB3.out.size)|exact HB3.out.drew.trans (hb4.mono HB3.out.drew.size)⟩
theorem cGet_any (Hk:Nd→ByteArray→Prop)(ok:Nat→Prop)(T:Nat)(st:Value)(n:Nd)(key:ByteArray)(w:World)(hA:TreeAt Hk ok w T st n)(hO:TOk n)(hk:key.size≤64) :
  Calls Tryz.prog 34 #[ptr T,.string key] w fun e w' => e=gotE (n.look (pathN key))∧Below w.heap.size w w' := by
 have HP:=hide (tGet_any Hk ok T st n key w hA hO hk)
 obtain⟨s,er,hE,_⟩:=gotE_form (n.look (pathN key))
 rw[hE] at HP ⊢
 clear hA hO hE
 unfold ptr at *
 go_enter Tryz.func34,Tryz.ntmps34
 go_wp2_with fail
 refine HP.out.mono ?_
 rintro e w5 ⟨rfl,h1⟩
 go_wp2
 go_ret2
 exact⟨rfl,h1⟩
theorem newStore_none (w:World) :
  Calls Tryz.prog 40 #[.slice none 0 0] w fun e w' => e=.returned (.tuple #[.map (some w.heap.size),.int .i64 0])∧w' = w.alloc (.map #[] 0):=by
 have hmm:=@run_makeMap Tryz.prog
 go_enter Tryz.func40,Tryz.ntmps40
 go_wp2_with fail
 generalize hW:World.alloc w _=W
 go_loopw [16] (fun iv wr=>iv=.int .i64 0∧wr=W) (fun _ _=>0)
 case atStart=>exact⟨rfl,rfl⟩
 case round =>
  obtain⟨rfl,rfl⟩:=hrel
  go_wp2
  go_ret2
  exact⟨rfl,hW.symm⟩
def NewPost (Hk:Nd→ByteArray→Prop)(w:World)(e:Ending)(w' : World):Prop:=∃T M,e=.returned (.tuple #[ptr T,.int .i64 0])∧w.heap.size≤M∧M<w'.heap.size∧w.heap.size≤T∧T≠M∧w'.heap[M]? = some (.map #[] 0)∧TreeAt Hk (fun _=>False) w' T (.map (some M)) .nil∧Below w.heap.size w w'
theorem tNew_none (w:World) :
  Calls Tryz.prog 17 #[.slice none 0 0] w fun e w' => ∃M,e=.returned (.tuple #[.agg #[.map (some M),.nilIface,.string e0],.int .i64 0])∧w.heap.size≤M∧M<w'.heap.size∧w'.heap[M]? = some (.map #[] 0)∧Below w.heap.size w w' := by
 have HN:=hide (fun W=>newStore_none W)
 have HB0:Hid (∀o,Below w.heap.size w (w.alloc o)):=fun o=>below_alloc _ _
 go_enter Tryz.func17,Tryz.ntmps17
 go_wp2_with fail
 refine (HN.out _).mono ?_
 rintro e w1 ⟨rfl,rfl⟩
 go_wp2
 have hlt:w.heap.size<(w.alloc (.cells #[.map (some (w.heap.size+1)),.nilIface,.string ⟨#[]⟩] 67)).heap.size:=by simp
 have r:=(Below.heap_alloc (w.alloc (.cells #[.map (some (w.heap.size+1)),.nilIface,.string ⟨#[]⟩] 67)) (.map #[] 0) w.heap.size hlt).trans (heap_alloc_new w _)
 have r0:=cell_of_row _ _ 0 _ _ (0,0) r
 have r1:=cell_of_row _ _ 1 _ _ (0,0) r
 have r2:=cell_of_row _ _ 2 _ _ (0,0) r
 refine bodyPost_ret (v:=.tuple #[.agg #[.map (some (w.heap.size+1)),.nilIface,.string e0],.int .i64 0]) (by simp[results,Tryz.results17,go_sem,r0,r1,r2]) rfl ?_
 refine⟨w.heap.size+1,rfl,by omega,by simp,?_,below_alloc2 _ _ _⟩
 have h:=heap_alloc_new (w.alloc (.cells #[.map (some (w.heap.size+1)),.nilIface,.string ⟨#[]⟩] 67)) (.map #[] 0)
 rwa [World.size_alloc] at h
theorem cNew_none (Hk:Nd→ByteArray→Prop)(w:World) :
  Calls Tryz.prog 9 #[.slice none 0 0] w fun e w' => NewPost Hk w e w' := by
 have HN:=hide (tNew_none w)
 go_enter Tryz.func9,Tryz.ntmps9
 go_wp2_with fail
 refine HN.out.mono ?_
 rintro e w1 ⟨M,rfl,h1,h2,h3,h4⟩
 have HX:=hide (And.intro h1 (And.intro h2 (And.intro h3 h4)))
 clear h1 h2 h3 h4
 go_wp2
 go_ret2
 obtain⟨h1,h2,h3,h4⟩:=HX.out
 have hb:=h4.size
 have hbel:∀o1 o2,Below w1.heap.size w1 ((w1.alloc o1).alloc o2):=fun o1 o2=>below_alloc2 _ _ _
 refine⟨w1.heap.size+1,M,rfl,h1,by simp;omega,by omega,by omega,((hbel _ _).block M h2).trans h3,⟨⟨.nilIface,?_,rfl⟩,fun k hk=>hk.elim⟩,h4.trans ((hbel _ _).mono h4.size)⟩
 have h:=heap_alloc_new (w1.alloc (.cells #[.map (some M),.nilIface,.string e0] 67)) (.cells #[.map (some M),.nilIface,.string e0] 71)
 rwa [World.size_alloc] at h
theorem newStore_empty (ao:Option Addr)(cap:Nat)(w:World) :
  Calls Tryz.prog 40 #[.slice ao 0 cap] w fun e w' => e=.returned (.tuple #[.map (some w.heap.size),.int .i64 0])∧w' = w.alloc (.map #[] 0):=by
 have hmm:=@run_makeMap Tryz.prog
 go_enter Tryz.func40,Tryz.ntmps40
 go_wp2_with fail
 generalize hW:World.alloc w _=W
 go_loopw [16] (fun iv wr=>iv=.int .i64 0∧wr=W) (fun _ _=>0)
 case atStart=>exact⟨rfl,rfl⟩
 case round =>
  obtain⟨rfl,rfl⟩:=hrel
  go_wp2
  go_ret2
  exact⟨rfl,hW.symm⟩
theorem tNew_empty (ao:Option Addr)(cap:Nat)(w:World) :
  Calls Tryz.prog 17 #[.slice ao 0 cap] w fun e w' => ∃M,e=.returned (.tuple #[.agg #[.map (some M),.nilIface,.string e0],.int .i64 0])∧w.heap.size≤M∧M<w'.heap.size∧w'.heap[M]? = some (.map #[] 0)∧Below w.heap.size w w' := by
 have HN:=hide (fun W=>newStore_empty ao cap W)
 have HB0:Hid (∀o,Below w.heap.size w (w.alloc o)):=fun o=>below_alloc _ _
 go_enter Tryz.func17,Tryz.ntmps17
 go_wp2_with fail
 refine (HN.out _).mono ?_
 rintro e w1 ⟨rfl,rfl⟩
 go_wp2
 have hlt:w.heap.size<(w.alloc (.cells #[.map (some (w.heap.size+1)),.nilIface,.string ⟨#[]⟩] 67)).heap.size:=by simp
 have r:=(Below.heap_alloc (w.alloc (.cells #[.map (some (w.heap.size+1)),.nilIface,.string ⟨#[]⟩] 67)) (.map #[] 0) w.heap.size hlt).trans (heap_alloc_new w _)
 have r0:=cell_of_row _ _ 0 _ _ (0,0) r
 have r1:=cell_of_row _ _ 1 _ _ (0,0) r
 have r2:=cell_of_row _ _ 2 _ _ (0,0) r
 refine bodyPost_ret (v:=.tuple #[.agg #[.map (some (w.heap.size+1)),.nilIface,.string e0],.int .i64 0]) (by simp[results,Tryz.results17,go_sem,r0,r1,r2]) rfl ?_
 refine⟨w.heap.size+1,rfl,by omega,by simp,?_,below_alloc2 _ _ _⟩
 have h:=heap_alloc_new (w.alloc (.cells #[.map (some (w.heap.size+1)),.nilIface,.string ⟨#[]⟩] 67)) (.map #[] 0)
 rwa [World.size_alloc] at h
theorem cNew_empty (Hk:Nd→ByteArray→Prop)(ao:Option Addr)(cap:Nat)(w:World) :
  Calls Tryz.prog 9 #[.slice ao 0 cap] w fun e w' => NewPost Hk w e w' := by
 have HN:=hide (tNew_empty ao cap w)
 go_enter Tryz.func9,Tryz.ntmps9
 go_wp2_with fail
 refine HN.out.mono ?_
 rintro e w1 ⟨M,rfl,h1,h2,h3,h4⟩
 have HX:=hide (And.intro h1 (And.intro h2 (And.intro h3 h4)))
 clear h1 h2 h3 h4
 go_wp2
 go_ret2
 obtain⟨h1,h2,h3,h4⟩:=HX.out
 have hb:=h4.size
 have hbel:∀o1 o2,Below w1.heap.size w1 ((w1.alloc o1).alloc o2):=fun o1 o2=>below_alloc2 _ _ _
 refine⟨w1.heap.size+1,M,rfl,h1,by simp;omega,by omega,by omega,((hbel _ _).block M h2).trans h3,⟨⟨.nilIface,?_,rfl⟩,fun k hk=>hk.elim⟩,h4.trans ((hbel _ _).mono h4.size)⟩
 have h:=heap_alloc_new (w1.alloc (.cells #[.map (some M),.nilIface,.string e0] 67)) (.cells #[.map (some M),.nilIface,.string e0] 71)
 rwa [World.size_alloc] at h
theorem num_any (z:Int)(w:World):Calls Tryz.prog 26 #[.int .i64 z] w fun e w' => e=.returned (.int .i64 z)∧w' = w:=by
 go_enter Tryz.func26,Tryz.ntmps26
 go_wp2
 go_ret
 exact⟨rfl,rfl⟩
structure MadeAt (Hk:Nd→ByteArray→Prop)(w w' : World)(B lo:Nat)(x0 r0 x1 r1 rts:Value)(gl:List Nat)(T M R S:Nat):Prop where
 bk:Bk w' B lo x0 r0 x1 r1 rts gl
 tree:TreeAt Hk (fun _=>False) w' T (.map (some M)) .nil
 ref:w'.heap[R]? = some (.cells #[ptr S,.slice none 0 0] 77 (0,0))
 newT:w.heap.size≤T
 newR:w.heap.size≤R
 ex:Ex (fun k=>k=B∨(lo≤k∧∃cur,w.heap[k]? = some (.cells cur 22 (0,0)))) w w'
theorem MadeAt.below {Hk:Nd→ByteArray→Prop}{w w' : World}{B lo:Nat}{x0 r0 x1 r1 rts:Value}{gl:List Nat}{T M R S:Nat}(h:MadeAt Hk w w' B lo x0 r0 x1 r1 rts gl T M R S)(hlo:lo≤B)(hs:lo≤w.heap.size):Below lo w w' :=
 ⟨h.ex.os,h.ex.tape,h.ex.output,h.ex.size,fun k hk=>h.ex.block k (by omega) (fun hx=>by
  rcases hx with hx|⟨hx,_⟩<;>omega)⟩
theorem MadeAt.same {Hk:Nd→ByteArray→Prop}{w w' : World}{B lo:Nat}{x0 r0 x1 r1 rts:Value}{gl:List Nat}{T M R S:Nat}(h:MadeAt Hk w w' B lo x0 r0 x1 r1 rts gl T M R S){k:Nat}{cs:Array Value}{t:TypeId}{fr:Nat×Nat}(hk:w.heap[k]? = some (.cells cs t fr))(hB:k≠B)(ht:t≠22):w'.heap[k]? = some (.cells cs t fr):=by
 rw[h.ex.block k (aGe.1 hk).1 (fun hx=>by
  rcases hx with hx|⟨_,cur,hx⟩
  ·exact hB hx
  ·rw[hk] at hx
   injection hx with hx
   injection hx with _ hx _
   exact ht hx)]
 exact hk
theorem made_nil (Hk:Nd→ByteArray→Prop)(B lo:Nat)(x0 r0 x1 r1 rts:Value)(gl:List Nat)(w:World)(hK:Bk w B lo x0 r0 x1 r1 rts gl)(hlo:lo≤w.heap.size)(hn:gl.length≤1000) :
  Calls Tryz.prog 13 #[.pointer (some ⟨B,0,none⟩),.slice none 0 0] w fun e w' => ∃T M R S g,e=.returned (.tuple #[.agg #[ptr T,ptr R],.bool true])∧MadeAt Hk w w' B lo x0 r0 x1 r1 rts (gl++[g]) T M R S:=by
 have HK:=hide hK
 have HL:=hide (fun b W=>lend_nil b W)
 have HN:=hide (fun ao cap W=>cNew_empty Hk ao cap W)
 have HR:=hide (fun W=>refNew_nil W)
 have HU:=hide num_any
 clear hK
 go_enter Tryz.func13,Tryz.ntmps13
 have HBox:Hid ((w.alloc (.cells #[.pointer none,.pointer none] 51)).heap[w.heap.size]? = some (.cells #[.pointer none,.pointer none] 51 (0,0))):=heap_alloc_new _ _
 have HB0:=hide (below_alloc w (.cells #[.pointer none,.pointer none] 51))
 have HS0:Hid ((w.alloc (.cells #[.pointer none,.pointer none] 51)).heap.size=w.heap.size+1):=World.size_alloc _ _
 go_wp2_with fail
 generalize (w.alloc (.cells #[.pointer none,.pointer none] 51))=W0 at *
 refine (HL.out _ _).mono ?_
 rintro e w1 ⟨rfl,hg1,hb1⟩
 have HG1:=hide hg1
 have HB1:=hide hb1
 obtain⟨g,hg⟩:∃g,W0.heap.size=g:=⟨_,rfl⟩
 rw[hg] at HG1 ⊢
 have HGw:Hid (w.heap.size<g):=by show _<_;have:=HS0.out;omega
 have HGg:=hide hg
 clear hg1 hb1 hg
 go_wp2_with fail
 refine (HN.out _ _ _).mono ?_
 rintro e w2 ⟨T,M,rfl,h1,h2,h3,h4,h5,h6,hb2⟩
 have HT:=hide h6
 have HTn:=hide h3
 have HB2:=hide hb2
 clear h1 h2 h3 h4 h5 h6 hb2
 unfold ptr
 go_wp2_with fail
 refine (HR.out _).mono ?_
 rintro e w3 ⟨rfl,hr3,hb3⟩
 have HR3:=hide hr3
 have HB3:=hide hb3
 obtain⟨S,hS⟩:∃S,w2.heap.size=S:=⟨_,rfl⟩
 obtain⟨R,hR⟩:∃R,w2.heap.size+1=R:=⟨_,rfl⟩
 rw[hR,hS] at HR3
 rw[hR]
 have HRR:=hide hR
 have HSS:=hide hS
 clear hr3 hb3 hR hS
 have s0:=HB0.out.size
 have s1:=HB1.out.size
 have s2:=HB2.out.size
 have s3:=HB3.out.size
 have HBw:Hid (Below w.heap.size w w3):=((HB0.out.trans (HB1.out.mono s0)).trans (HB2.out.mono (by omega))).trans (HB3.out.mono (by omega))
 have hgl:g<w1.heap.size:=(aGe.1 HG1.out).1
 have HG3:Hid (w3.heap[g]? = some (.cells (row3 lentS) 125 (0,0))):=((HB3.out.block g (by omega)).trans (HB2.out.block g hgl)).trans HG1.out
 have hW0:w.heap.size<W0.heap.size:=(aGe.1 HBox.out).1
 have HX3:Hid (w3.heap[w.heap.size]? = some (.cells #[.pointer none,.pointer none] 51 (0,0))):=(((HB3.out.block _ (by omega)).trans (HB2.out.block _ (by omega))).trans (HB1.out.block _ hW0)).trans HBox.out
 have HK3:=hide (HK.out.keep HBw.out)
 have HT3:=hide (HT.out.keep HB3.out)
 have HLo3:Hid (lo≤w3.heap.size):=by show _≤_;omega
 have HTw:Hid (w.heap.size<T):=by show _<_;have:=HTn.out;omega
 have HRw:Hid (w.heap.size<R):=by show _<_;have:=HRR.out;omega
 clear s0 s1 s2 s3 hgl hW0 HB0 HB1 HB2 HB3 HBox HG1 HT HS0 HGg HTn HRR HSS HR HN HL
 obtain⟨v,hv,hown⟩:=HK3.out.box
 obtain⟨va,vc,rfl⟩:=ownsRow_slice hown
 have hbv:some B≠(Value.slice va gl.length vc).ownBlock:=fun e=>by
  obtain⟨_,cur,hc⟩:=ownsRow_type hown B e.symm
  rw[hv] at hc
  injection hc with hc
  injection hc with _ hc _
  exact absurd hc (by decide)
 have hgv:some g≠(Value.slice va gl.length vc).ownBlock:=fun e=>by
  obtain⟨_,cur,hc⟩:=ownsRow_type hown g e.symm
  rw[HG3.out] at hc
  injection hc with hc
  injection hc with _ hc _
  exact absurd hc (by decide)
 have hBg:B≠g:=fun e=>by
  have hc:=HG3.out
  rw[←e,hv] at hc
  injection hc with hc
  injection hc with _ hc _
  exact absurd hc (by decide)
 have HBk:=hide (back_nil B g lo gl.length (.slice va gl.length vc) (gl.map sl3) w3 (cell_of_row _ _ 5 _ _ (0,0) hv) (frozen_of_row _ _ 5 _ _ hv) HG3.out hBg hown HLo3.out hbv hgv (by omega))
 have HV:=hide hv
 have HO:=hide hown
 clear hv hown
 go_wp2_with fail
 refine HBk.out.mono ?_
 rintro e w4 ⟨v', W,rfl,rfl,hex,hgr,hon⟩
 have HE:=hide hex
 have HGr:=hide hgr
 have HOn:=hide hon
 have hXW:W.heap[w.heap.size]? = some (.cells #[.pointer none,.pointer none] 51 (0,0)):=by
  rw[hex.block _ (aGe.1 HX3.out).1 (fun h=>by
   rcases h with h|h
   ·have:=HGw.out;omega
   ·obtain⟨_,cur,hc⟩:=ownsRow_type HO.out _ h.symm
    rw[HX3.out] at hc
    injection hc with hc
    injection hc with _ hc _
    exact absurd hc (by decide))]
  exact HX3.out
 have hBne:w.heap.size≠B:=fun e=>by
  have h1:=HV.out
  rw[←e,HX3.out] at h1
  injection h1 with h1
  injection h1 with _ h1 _
  exact absurd h1 (by decide)
 have hXW4:(W.setCell ⟨B,5,none⟩ v').heap[w.heap.size]? = some (.cells #[.pointer none,.pointer none] 51 (0,0)):=by
  rw[heap_setCell_other _ _ _ _ (by exact hBne)];exact hXW
 have q0:(W.setCell ⟨B,5,none⟩ v').cell? ⟨w.heap.size,0,none⟩=some (.pointer none):=cell_of_row _ _ 0 _ _ (0,0) hXW4
 have q1:(W.setCell ⟨B,5,none⟩ v').cell? ⟨w.heap.size,1,none⟩=some (.pointer none):=cell_of_row _ _ 1 _ _ (0,0) hXW4
 have q2:∀j,(W.setCell ⟨B,5,none⟩ v').frozen? ⟨w.heap.size,j,none⟩=false:=fun j=>frozen_of_row _ _ j _ _ hXW4
 have HXW:=hide hXW4
 have HBne:=hide hBne
 clear hex hgr hon hXW hBne hXW4
 generalize hW4:W.setCell ⟨B,5,none⟩ v' = w4 at *
 have HW4:=hide hW4
 clear hW4
 go_wp2_with fail
 refine (HU.out _ _).mono ?_
 rintro e w5 ⟨rfl,rfl⟩
 go_wp2
 have hb6:=heap_setCell_same _ w.heap.size 1 _ 51 (Value.pointer (some ⟨R,0,none⟩)) (heap_setCell_same w5 w.heap.size 0 _ 51 (Value.pointer (some ⟨T,0,none⟩)) HXW.out)
 have t0:=cell_of_row _ _ 0 _ _ (0,0) hb6
 have t1:=cell_of_row _ _ 1 _ _ (0,0) hb6
 refine bodyPost_ret (v:=.tuple #[.agg #[.pointer (some ⟨T,0,none⟩),.pointer (some ⟨R,0,none⟩)],.bool true]) (by simp[results,Tryz.results13,go_sem,t0,t1]) rfl ?_
 refine⟨T,M,R,S,g,rfl,?_⟩
 have sW:=HE.out.size
 have hother:∀k:Nat,k≠w.heap.size→k≠B→((w5.setCell ⟨w.heap.size,0,none⟩ (Value.pointer (some ⟨T,0,none⟩))).setCell ⟨w.heap.size,1,none⟩ (Value.pointer (some ⟨R,0,none⟩))).heap[k]? = W.heap[k]?:=fun k h1 h2=>by
  rw[heap_setCell_other _ _ _ _ (by exact h1),heap_setCell_other _ _ _ _ (by exact h1),←HW4.out,heap_setCell_other _ _ _ _ (by exact h2)]
 have hBB:((w5.setCell ⟨w.heap.size,0,none⟩ (Value.pointer (some ⟨T,0,none⟩))).setCell ⟨w.heap.size,1,none⟩ (Value.pointer (some ⟨R,0,none⟩))).heap[B]? = some (.cells (wCells v' x0 r0 x1 r1 rts) 55 (0,0)):=by
  have hne:B≠w.heap.size:=fun e=>HBne.out e.symm
  rw[heap_setCell_other _ _ _ _ (by exact hne),heap_setCell_other _ _ _ _ (by exact hne),←HW4.out]
  have hBW:W.heap[B]? = some (.cells (wCells (.slice va gl.length vc) x0 r0 x1 r1 rts) 55 (0,0)):=by
   rw[HE.out.block B (aGe.1 HV.out).1 (fun h=>by rcases h with h|h;exact hBg h;exact hbv h)];exact HV.out
  rw[heap_setCell_same W B 5 _ 55 v' hBW]
  rfl
 have hWold:∀(k:Nat) (cs:Array Value) (t:TypeId) (fr:Nat×Nat),w3.heap[k]? = some (.cells cs t fr)→t≠22→k≠g→W.heap[k]? = some (.cells cs t fr):=fun k cs t fr hk ht hkg=>by
  rw[HE.out.block k (aGe.1 hk).1 (fun h=>by
   rcases h with h|h
   ·exact hkg h
   ·obtain⟨_,cur,hc⟩:=ownsRow_type HO.out _ h.symm
    rw[hk] at hc
    injection hc with hc
    injection hc with _ hc _
    exact ht hc)]
  exact hk
 have hWg:∀(k:Nat) (cs:Array Value) (t:TypeId) (fr:Nat×Nat),w3.heap[k]? = some (.cells cs t fr)→t≠125→k≠g:=fun k cs t fr hk ht e=>by
  rw[e,HG3.out] at hk
  injection hk with hk
  injection hk with _ hk _
  exact ht hk.symm
 have hne6:∀(k:Nat) (cs:Array Value) (t:TypeId) (fr:Nat×Nat),w3.heap[k]? = some (.cells cs t fr)→t≠55→t≠51→k≠w.heap.size∧k≠B:=fun k cs t fr hk h1 h2=>by
  constructor
  ·intro e
   rw[e,HX3.out] at hk
   injection hk with hk
   injection hk with _ hk _
   exact h2 hk.symm
  ·intro e
   rw[e,HV.out] at hk
   injection hk with hk
   injection hk with _ hk _
   exact h1 hk.symm
 generalize hW6:(w5.setCell ⟨w.heap.size,0,none⟩ (Value.pointer (some ⟨T,0,none⟩))).setCell ⟨w.heap.size,1,none⟩ (Value.pointer (some ⟨R,0,none⟩))=w6 at *
 have hsz6:w6.heap.size=W.heap.size:=by rw[←hW6,←HW4.out];simp[World.setCell]
 have hfar:∀(k:Nat) (cs:Array Value) (t:TypeId) (fr:Nat×Nat),w3.heap[k]? = some (.cells cs t fr)→t≠125→t≠22→t≠55→t≠51→w6.heap[k]? = some (.cells cs t fr):=fun k cs t fr hk h1 h2 h3 h4=>by
  obtain⟨k1,k2⟩:=hne6 k cs t fr hk h3 h4
  rw[hother k k1 k2]
  exact hWold k cs t fr hk h2 (hWg k cs t fr hk h1)
 have hgne:g≠w.heap.size:=by have:=HGw.out;omega
 refine⟨⟨⟨v', hBB,?_⟩,fun i hi=>?_⟩,?_,hfar R _ _ _ HR3.out (by decide) (by decide) (by decide) (by decide),by have:=HTw.out;omega,by have:=HRw.out;omega,?_⟩
 ·have hon:=HOn.out
  rw[List.length_append,List.map_append]
  refine⟨hon.1,?_⟩
  rcases hon.2 with h|⟨q,c,cur,h1,h2,h3,h4⟩
  ·exact .inl h
  ·refine .inr ⟨q,c,cur,h1,h2,?_,h4⟩
   rw[hother q (fun e=>?_) (fun e=>?_)]
   ·exact h3
   ·have hx:=hWold w.heap.size _ _ _ HX3.out (by decide) (Ne.symm hgne)
    rw[←e,h3] at hx
    injection hx with hx
    injection hx with _ hx _
    exact absurd hx (by decide)
   ·have hx:=hWold B _ _ _ HV.out (by decide) hBg
    rw[←e,h3] at hx
    injection hx with hx
    injection hx with _ hx _
    exact absurd hx (by decide)
 ·by_cases hil:i<gl.length
  ·rw[List.getElem_append_left hil]
   have ho:=HK.out.rows i hil
   have hlt:=(aGe.1 ho).1
   have h3:=HK3.out.rows i hil
   have hB2:gl[i]≠B:=fun e=>by
    rw[e,HV.out] at h3
    injection h3 with h3
    injection h3 with _ h3 _
    exact absurd h3 (by decide)
   rw[hother _ (by omega) hB2]
   exact hWold _ _ _ _ h3 (by decide) (by have:=HGw.out;omega)
  ·obtain rfl:i=gl.length:=by simp at hi;omega
   rw[List.getElem_append_right (Nat.le_refl _)]
   simp only[Nat.sub_self,List.getElem_cons_zero]
   rw[hother g hgne (Ne.symm hBg)]
   exact HGr.out
 ·obtain⟨u,k1,k2⟩:=HT3.out.held
  exact⟨⟨u,hfar T _ _ _ k1 (by decide) (by decide) (by decide) (by decide),k2⟩,fun k hk=>hk.elim⟩
 ·have hb:=HBw.out
  refine⟨?_,?_,?_,by rw[hsz6];exact Nat.le_trans hb.size sW,fun k hk hx=>?_⟩
  ·rw[←hW6,←HW4.out];exact HE.out.os.trans hb.os
  ·rw[←hW6,←HW4.out];exact HE.out.tape.trans hb.tape
  ·rw[←hW6,←HW4.out];exact HE.out.output.trans hb.output
  ·have h3:=hb.block k hk
   rw[hother k (by omega) (fun e=>hx (.inl e)),HE.out.block k (Nat.lt_of_lt_of_le hk hb.size) (fun h=>?_),h3]
   rcases h with h|h
   ·have:=HGw.out;omega
   ·obtain⟨hq,cur,hc⟩:=ownsRow_type HO.out _ h.symm
    exact hx (.inr ⟨hq,cur,by rw[←h3];exact hc⟩)
def longE (k:ByteArray):Int:=if k.size≤64 then 9 else 8
theorem tPut_long (T g o cap:Nat)(k v:ByteArray)(w:World)(hm:Prs w (some ⟨g,o,none⟩) [(k,v)])(hl:¬(k.size≤64∧v.size≤400)) :
  Calls Tryz.prog 18 #[ptr T,.slice (some ⟨g,o,none⟩) 1 cap] w fun e w' => e=.returned (.int .i64 (longE k))∧Below w.heap.size w w' := by
 obtain⟨g', o', e,x1,x2⟩:=hm 0 (by simp)
 obtain⟨rfl,rfl⟩:g=g' ∧ o=o' := by simpa using e
 have x1:w.cell? ⟨g,o,none⟩=some (.string k):=by simpa using x1
 have x2:w.cell? ⟨g,o+1,none⟩=some (.string v):=by simpa using x2
 have HK:Hid (∀W,Below w.heap.size w W→W.cell? ⟨g,o,none⟩=some (.string k)∧W.cell? ⟨g,o+1,none⟩=some (.string v)):=fun W hW=>⟨(hW.cell (p:=⟨g,o,none⟩) (World.block_lt_of_cell? w _ x1)).trans x1,(hW.cell (p:=⟨g,o+1,none⟩) (World.block_lt_of_cell? w _ x2)).trans x2⟩
 have HB0:=hide (below_alloc w (.cells #[ptr T] 104))
 clear x1 x2 hm e
 unfold ptr at *
 go_enter Tryz.func18,Tryz.ntmps18
 go_wp2_with fail
 generalize World.alloc w _=W0 at *
 go_loopw [11] (fun iv wr=>∃i:Nat,i≤1∧iv=.int .i64 (i:Int)∧(i=1→k.size≤64)∧Hid (Below W0.heap.size W0 wr)) (fun iv _=>1 - (intOf iv).toNat)
 case atStart=>exact⟨0,by omega,rfl,fun h=>by omega,Below.refl _ _⟩
 case round =>
  obtain⟨i,hi,rfl,hk1,HW⟩:=hrel
  have HBW:Hid (Below w.heap.size w wr):=HB0.out.trans (HW.out.mono HB0.out.size)
  by_cases hlt:i<1
  ·obtain rfl:i=0:=by omega
   obtain⟨e1,e2⟩:=HK.out wr HBW.out
   have HB3:Hid (Below w.heap.size w (wr.alloc (.cells #[.string k,.string v] 33))):=HBW.out.alloc HBW.out.size _
   have HW2:Hid (Below W0.heap.size W0 (wr.alloc (.cells #[.string k,.string v] 33))):=HW.out.alloc HW.out.size _
   by_cases hk:k.size≤64
   ·have k1:(k.size:Int)≤64:=by omega
    have HKs:=hide hk
    clear hk hk1 hl
    go_wp2
    go_roundw
    case rel=>exact⟨1,by omega,by go_num,fun _=>HKs.out,HW2⟩
    case measure=>simp[intOf]
   ·have k1:(64:Int)<(k.size:Int):=by omega
    have HE:Hid (longE k=8):=if_neg hk
    clear hk hk1 hl
    go_wp2
    go_ret
    exact⟨by rw[HE.out];rfl,HB3.out⟩
  ·obtain rfl:i=1:=by omega
   have hk:=hk1 rfl
   have hv:¬v.size≤400:=fun h=>hl ⟨hk,h⟩
   have HE:Hid (longE k=9):=if_pos hk
   obtain⟨W1,rfl⟩:∃W1:World,W1=wr:=⟨_,rfl⟩
   have hv1:(400:Int)<(v.size:Int):=by omega
   clear HW hk hk1 hl hv
   go_wp2_with fail
   go_loopw [22] (fun iv wr=>∃i:Nat,i≤0∧iv=.int .i64 (i:Int)∧Hid (Below W1.heap.size W1 wr)) (fun iv _=>1 - (intOf iv).toNat)
   case atStart=>exact⟨0,by omega,rfl,Below.refl _ _⟩
   case round =>
    obtain⟨i,hi,rfl,HW⟩:=hrel
    obtain rfl:i=0:=by omega
    have HBV:Hid (Below w.heap.size w wr):=HBW.out.trans (HW.out.mono HBW.out.size)
    obtain⟨e1,e2⟩:=HK.out wr HBV.out
    have HB3:Hid (Below w.heap.size w (wr.alloc (.cells #[.string k,.string v] 33))):=HBV.out.alloc HBV.out.size _
    go_wp2
    go_ret
    exact⟨by rw[HE.out];rfl,HB3.out⟩
theorem cPut_long (T g o cap:Nat)(k v:ByteArray)(w:World)(hm:Prs w (some ⟨g,o,none⟩) [(k,v)])(hl:¬(k.size≤64∧v.size≤400)) :
  Calls Tryz.prog 10 #[ptr T,.slice (some ⟨g,o,none⟩) 1 cap] w fun e w' => e=.returned (.int .i64 (longE k))∧Below w.heap.size w w' := by
 have HP:=hide (tPut_long T g o cap k v w hm hl)
 clear hm hl
 generalize longE k=E at *
 unfold ptr at *
 go_enter Tryz.func10,Tryz.ntmps10
 go_wp2_with fail
 refine HP.out.mono ?_
 rintro e w5 ⟨rfl,h1⟩
 have HX:=hide h1
 clear h1
 go_wp2
 go_ret
 exact⟨rfl,HX.out⟩
end Go.Proofs.YthdjmldddjljfaaGreatDoor
