/-
 Several texts in one: E1,E2.
-/
import Derived.Test.YtbgpddlcfiiiaaaGreatDoorSbm09
import Derived.Test.YtbgpddlcfiiiaaaGreatDoorSbm03
import Derived.Test.YtbgpddlcfiiiaaaGreatDoorSbm15
import Derived.Test.YtbgpddlcfiiiaaaGreatDoorSbm10
import Derived.Lib.AppendIntMem
import Derived.Lib.BufferWrite
import Derived.Lib.OwnKind
import Derived.Maps.AppendAt
set_option maxRecDepth 100000
set_option maxHeartbeats 1600000
namespace Go.Proofs.YtbgpddlcfiiiaaaGreatDoor
open Go.RowKit Go.Sort Go.Shelf
namespace Nt

variable {w:World}{v:Value}{l:List UInt8}
def Buf (B:Nat)(w:World)(v:Value)(l:List UInt8):Prop:=w.ownsRow B 5 1 v l.length (Lib.byteCells l)
theorem buf_nil (B:Nat)(w:World):Buf B w (.slice none 0 0) []:=⟨rfl,.inl ⟨rfl,rfl⟩⟩
theorem Buf.alloc {B:Nat}(h:Buf B w v l)(o:Obj):Buf B (w.alloc o) v l:=World.ownsRow.alloc h o
theorem infoB :(Tryz.prog.info? 5).map (fun i=>(i.zero,i.size,i.bytes))=some (some (.int .u8 0),1,1):=by kernel_rfl

theorem appInt_n {w0:World}{i:Int}(k0:Below w0.heap.size w0 w)(hb:Buf w0.heap.size w v l)(hi:I64 i)(hl:l.length≤70368744177664)(htab:Tab w0):
  Calls Tryz.prog 66 #[v,.int .i64 i,.int .i64 10] w fun e w'=> ∃v',e= .returned v'∧Buf w0.heap.size w' v' (l++Lib.itoa i)∧Below w0.heap.size w w'∧Lib.OthersKept 5 none w w':=by
 refine(Tryz.strconv_AppendInt_10 w0.heap.size l.length i (by have:=hi.1;omega) (by have:=hi.2;omega) v _ w hb k0.size o_m ((Lib.tabBelow_of_tabIs htab).on k0)).mono ?_
 rintro e w' ⟨v',rfl,h1,h2,h3⟩
 refine⟨v',rfl,?_,h2,h3⟩
 unfold Buf
 rw[List.length_append,Lib.byteCells_append]
 exact h1
theorem appUint_n {w0:World}{u:Nat}(k0:Below w0.heap.size w0 w)(hb:Buf w0.heap.size w v l)(hu:u<18446744073709551616)(hl:l.length≤70368744177664)(htab:Tab w0):
  Calls Tryz.prog 110 #[v,.int .u64 u,.int .i64 10] w fun e w'=> ∃v',e= .returned v'∧Buf w0.heap.size w' v' (l++Lib.decDigits u)∧Below w0.heap.size w w'∧Lib.OthersKept 5 none w w':=by
 have ht:Tab w:=((Lib.tabBelow_of_tabIs htab).on k0).here
 go_enter Tryz.func110,Tryz.ntmps110
 go_wp2_with fail
 refine(Tryz.internal_strconv_AppendUint_10 w0.heap.size l.length u hu v _ w hb k0.size o_m ht).mono ?_
 rintro e w' ⟨v',rfl,h1,h2,h3⟩
 go_wp2
 go_ret
 refine⟨v',rfl,?_,h2,h3⟩
 unfold Buf
 rw[List.length_append,Lib.byteCells_append]
 exact h1
end Nt
namespace Nt

theorem lmT_snoc (l:List Nat)(x:Nat):lmT (l++ [x])=lmT l++(46::Lib.decDigits x):=by simp[lmT]
theorem lmT_length (l:List Nat)(h: ∀x∈l,x<10000000000):(lmT l).length≤11*l.length:=by
 induction l with
 |nil=>simp[lmT]
 |cons x l ih=>
  rw[lmT_cons]
  have h1:=dec_length_le 10 x (h x (by simp)) (by decide)
  have h2:=ih fun y hy=>h y (by simp[hy])
  simp only[List.length_cons,List.length_append]
  omega
theorem buf_snoc {B:Nat}{w:World}{v:Value}{l:List UInt8}{x:UInt8}{n:Nat}(h:w.ownsRow B 5 1 v n (Lib.byteCells l++ [.int .u8 x.toNat]))(hn:n=l.length+1):Buf B w v (l++ [x]):=by
 unfold Buf
 rw[List.length_append,Lib.byteCells_append]
 subst hn
 exact h
theorem buf_kept {w w4:World}{o:Obj}{v:Value}(hgrow:(w.alloc o).grownBy w4 v.ownBlock)(hB: ∀g,v.ownBlock=some g→∃c fz,w.heap[g]? =some (.cells c 5 fz)):Lib.OthersKept 5 none w w4:=by
 intro k x hk _ hx
 have hlt:=(Array.getElem?_eq_some_iff.1 hk).1
 have h1:=hgrow.block k (by simp;omega) (fun e=>by
  obtain⟨c,fz,h⟩:=hB k e.symm
  rw[hk]at h
  exact hx c fz (Option.some.inj h))
 rw[h1]
 exact(below_alloc w o).block k hlt |>.trans hk

theorem appendInt_n {w0 w:World}{v:Value}{l:List UInt8}{s:Bool}{a:Option Addr}{ln c:Nat}{xs:List Int}(k0:Below w0.heap.size w0 w)(hb:Buf w0.heap.size w v l)(hr:Rd w0 a ln c xs)(hln:ln≤4194304)(hl:l.length≤35184372088832)(htab:Tab w0):
  Calls Tryz.prog 67 #[v,.agg #[.bool s,.slice a ln c]] w fun e w'=> ∃v',e= .returned v'∧Buf w0.heap.size w' v' (l++((if s then [45]else [])++lmT (xs.map Int.toNat)))∧Below w0.heap.size w w'∧Lib.OthersKept 5 none w w':=by
 obtain⟨i0,hi,hz0,hz1,hz2⟩:=info_parts infoB
 have hxl:=hr.1
 have hlim:=hr.2.2.2.1
 replace hr:=hide hr
 have ka:=below_alloc w (.cells #[.bool s,.slice a ln c] 26)
 have k1:=hide (grow_step ka k0)
 have hkw:Hid (Below w0.heap.size w (w.alloc (.cells #[.bool s,.slice a ln c] 26))):=hide (ka.mono k0.size)
 have hb1:=hb.alloc (.cells #[.bool s,.slice a ln c] 26)
 have ho1:Hid (Lib.OthersKept 5 none w (w.alloc (.cells #[.bool s,.slice a ln c] 26))):=hide ((Lib.OthersKept.refl _ _ _).alloc _)
 have y:=zb_new w s a ln c
 have hks:=hide k0.size
 cases s with
 |false=>
  go_enter Tryz.func67,Tryz.ntmps67
  have u1:=y.c1
  have u0:=y.c0
  go_wp2_with fail
  clear u0 u1
  generalize w.alloc (.cells #[.bool false,.slice a ln c] 26)=wb at*
  go_loopw [0,15] (fun vv i wr=> ∃t:Nat,t≤ln∧i= .int .i64 t∧Hid (Buf w0.heap.size wr vv ((l)++lmT ((xs.take t).map Int.toNat)))∧Hid (Below w0.heap.size w wr)∧Hid (Lib.OthersKept 5 none w wr)) (fun _ i _=>ln-(intOf i).toNat)
  case atStart=>exact⟨0,Nat.zero_le _,rfl,(by show Buf _ _ _ _;simpa [lmT] using hb1),hkw,ho1⟩
  case round=>
   obtain⟨t,ht,rfl,hrow,kr,hor⟩:=hrel
   by_cases htn:t<ln
   ·have kw0:Hid (Below w0.heap.size w0 wr):=hide (k0.trans kr.out)
    obtain⟨-,-,-,-,hcs⟩:=hr.out.below kw0.out
    rcases hcs with⟨-,h,-⟩|⟨ax,rfl,hcs⟩
    ·omega
    rcases hcs with h|⟨bx,ox,rfl,hbx,hcs⟩
    ·omega
    have hc:=hcs t htn
    clear hcs
    have hx0:=hlim (lz xs t) (by unfold lz;rw[List.getD_eq_getElem?_getD,List.getElem?_eq_getElem o_m];exact List.getElem_mem _)
    have htk:Hid ((xs.take (t+1)).map Int.toNat=(xs.take t).map Int.toNat++ [(lz xs t).toNat]):=hide (by
     rw[List.take_succ_eq_append_getElem (l:=xs) (i:=t) o_m,List.map_append]
     unfold lz
     rw[List.getD_eq_getElem?_getD,List.getElem?_eq_getElem o_m]
     rfl)
    have hlen:Hid (((l)++lmT ((xs.take t).map Int.toNat)).length≤35184372088832+1+11*t):=hide (by
     rw[List.length_append]
     have h1:=lmT_length ((xs.take t).map Int.toNat) (fun x hx=>by
      obtain⟨y,hy,rfl⟩:=List.mem_map.1 hx
      have:=hlim y (List.mem_of_mem_take hy)
      omega)
     rw[List.length_map,List.length_take]at h1
     have h2:(l).length≤35184372088832+1:=o_m
     omega)
    generalize lz xs t=x at*
    generalize hLg:(l)++lmT ((xs.take t).map Int.toNat)=Lt at*
    replace hLg:=hide hLg
    have hbase:=hide kw0.out.size
    have hl2:=hlen.out
    obtain⟨u,hu⟩: ∃u:Nat,x=u:=⟨x.toNat,by omega⟩
    subst hu
    go_wp2_with(at_builtin;refine wpList_append_own_at _ rfl _ _ 129 rfl w0.heap.size 5 i0 _ 1 1 Tryz.underlying129 hi hz0 hz1 hz2 rfl (by decide) _ _ _ rfl (hrow.out.alloc _) ⟨wr.heap.size,0,none⟩ 1 1 [.int .u8 46] rfl rfl (by simpa using cell_one_new wr (.int .u8 46) 5) (by simp[Value.oneCell']) (by unfold maxLen;omega) o_m (by have:=hbase.out;simp;omega) ?_;intro v' w4 hown' hgrow hnil hat')
    have k4:Hid (Below w0.heap.size w w4):=(kr.out.trans ((below_alloc wr (.cells #[.int .u8 46] 5)).mono hbase.out)).grown hgrow (by have:=hbase.out;simp;omega) (fun k e=>(World.ownsRow.lt hrow.out k e).1)
    have o4:Hid (Lib.OthersKept 5 none w w4):=hor.out.trans (buf_kept hgrow (Lib.ownsRow_kind hrow.out))
    have hb4:Buf w0.heap.size w4 v' (Lt++ [46]):=buf_snoc hown' rfl
    clear hown' hgrow hnil hat' hrow hor kr
    refine(appUint_n (k0.trans k4.out) hb4 o_m (by simp;omega) htab).mono ?_
    rintro e w5 ⟨v5,rfl,hb5,k5,o5⟩
    have hfin:Hid (Buf w0.heap.size w5 v5 ((l)++lmT ((xs.take (t+1)).map Int.toNat))):=hide (by
     rw[htk.out,lmT_snoc,←List.append_assoc,hLg.out]
     simpa using hb5)
    have kfin:Hid (Below w0.heap.size w w5):=hide (k4.out.trans k5)
    have ofin:Hid (Lib.OthersKept 5 none w w5):=hide (o4.out.trans o5)
    clear hb5 k5 o5 k4 o4 hb4
    go_wp2
    exact⟨⟨t+1,by omega,by go_num,hfin,kfin,ofin⟩,by simp[intOf];omega⟩
   obtain rfl:t=ln:=by omega
   rw[List.take_of_length_le (Nat.le_of_eq hxl)]at hrow
   go_wp2
   go_ret
   exact⟨_,rfl,(by simpa using hrow.out),kr.out,hor.out⟩
 |true=>
  go_enter Tryz.func67,Tryz.ntmps67
  have u0:=y.c0
  have hbase0:=hide k1.out.size
  have hbl:Hid (∀g,v.ownBlock=some g→g<w.heap.size):=hide fun g e=>(World.ownsRow.lt hb g e).2
  go_wp2_with(at_builtin;refine wpList_append_own_at _ rfl _ _ 129 rfl w0.heap.size 5 i0 _ 1 1 Tryz.underlying129 hi hz0 hz1 hz2 rfl (by decide) _ _ _ rfl (hb1.alloc _) ⟨w.heap.size+1,0,none⟩ 1 1 [.int .u8 45] rfl rfl (by simpa using cell_one_new (w.alloc (.cells #[.bool true,.slice a ln c] 26)) (.int .u8 45) 5) (by simp[Value.oneCell']) (by unfold maxLen;omega) o_m (by have:=hbase0.out;simp at this ⊢;omega) ?_;intro v' w4 hown' hgrow hnil hat';have y4:ZB w4 w.heap.size true a ln c:=(hgrow.block w.heap.size (by simp;omega) (fun e=>by have:=hbl.out _ e.symm;omega)).trans (((below_alloc (w.alloc (.cells #[.bool true,.slice a ln c] 26)) (.cells #[.int .u8 45] 5)).block w.heap.size (by simp)).trans y);have u1:=y4.c1)
  have k4:Hid (Below w0.heap.size w w4):=(hkw.out.trans ((below_alloc (w.alloc (.cells #[.bool true,.slice a ln c] 26)) (.cells #[.int .u8 45] 5)).mono hbase0.out)).grown hgrow (by have:=hbase0.out;simp at this ⊢;omega) (fun k e=>(World.ownsRow.lt hb1 k e).1)
  have o4:Hid (Lib.OthersKept 5 none w w4):=ho1.out.trans (buf_kept hgrow (Lib.ownsRow_kind hb1))
  have hb4:Buf w0.heap.size w4 v' (l++ [45]):=buf_snoc hown' rfl
  clear hown' hgrow hnil hat' u0 ho1 hkw hb1
  clear u1 y4
  go_loopw [0,15] (fun vv i wr=> ∃t:Nat,t≤ln∧i= .int .i64 t∧Hid (Buf w0.heap.size wr vv ((l++ [45])++lmT ((xs.take t).map Int.toNat)))∧Hid (Below w0.heap.size w wr)∧Hid (Lib.OthersKept 5 none w wr)) (fun _ i _=>ln-(intOf i).toNat)
  case atStart=>exact⟨0,Nat.zero_le _,rfl,(by show Buf _ _ _ _;simpa [lmT] using hb4),k4,o4⟩
  case round=>
   obtain⟨t,ht,rfl,hrow,kr,hor⟩:=hrel
   by_cases htn:t<ln
   ·have kw0:Hid (Below w0.heap.size w0 wr):=hide (k0.trans kr.out)
    obtain⟨-,-,-,-,hcs⟩:=hr.out.below kw0.out
    rcases hcs with⟨-,h,-⟩|⟨ax,rfl,hcs⟩
    ·omega
    rcases hcs with h|⟨bx,ox,rfl,hbx,hcs⟩
    ·omega
    have hc:=hcs t htn
    clear hcs
    have hx0:=hlim (lz xs t) (by unfold lz;rw[List.getD_eq_getElem?_getD,List.getElem?_eq_getElem o_m];exact List.getElem_mem _)
    have htk:Hid ((xs.take (t+1)).map Int.toNat=(xs.take t).map Int.toNat++ [(lz xs t).toNat]):=hide (by
     rw[List.take_succ_eq_append_getElem (l:=xs) (i:=t) o_m,List.map_append]
     unfold lz
     rw[List.getD_eq_getElem?_getD,List.getElem?_eq_getElem o_m]
     rfl)
    have hlen:Hid (((l++ [45])++lmT ((xs.take t).map Int.toNat)).length≤35184372088832+1+11*t):=hide (by
     rw[List.length_append]
     have h1:=lmT_length ((xs.take t).map Int.toNat) (fun x hx=>by
      obtain⟨y,hy,rfl⟩:=List.mem_map.1 hx
      have:=hlim y (List.mem_of_mem_take hy)
      omega)
     rw[List.length_map,List.length_take]at h1
     have h2:(l++ [45]).length≤35184372088832+1:=(by simp;omega)
     omega)
    generalize lz xs t=x at*
    generalize hLg:(l++ [45])++lmT ((xs.take t).map Int.toNat)=Lt at*
    replace hLg:=hide hLg
    have hbase:=hide kw0.out.size
    have hl2:=hlen.out
    obtain⟨u,hu⟩: ∃u:Nat,x=u:=⟨x.toNat,by omega⟩
    subst hu
    go_wp2_with(at_builtin;refine wpList_append_own_at _ rfl _ _ 129 rfl w0.heap.size 5 i0 _ 1 1 Tryz.underlying129 hi hz0 hz1 hz2 rfl (by decide) _ _ _ rfl (hrow.out.alloc _) ⟨wr.heap.size,0,none⟩ 1 1 [.int .u8 46] rfl rfl (by simpa using cell_one_new wr (.int .u8 46) 5) (by simp[Value.oneCell']) (by unfold maxLen;omega) o_m (by have:=hbase.out;simp;omega) ?_;intro v' w4 hown' hgrow hnil hat')
    have k4:Hid (Below w0.heap.size w w4):=(kr.out.trans ((below_alloc wr (.cells #[.int .u8 46] 5)).mono hbase.out)).grown hgrow (by have:=hbase.out;simp;omega) (fun k e=>(World.ownsRow.lt hrow.out k e).1)
    have o4:Hid (Lib.OthersKept 5 none w w4):=hor.out.trans (buf_kept hgrow (Lib.ownsRow_kind hrow.out))
    have hb4:Buf w0.heap.size w4 v' (Lt++ [46]):=buf_snoc hown' rfl
    clear hown' hgrow hnil hat' hrow hor kr
    refine(appUint_n (k0.trans k4.out) hb4 o_m (by simp;omega) htab).mono ?_
    rintro e w5 ⟨v5,rfl,hb5,k5,o5⟩
    have hfin:Hid (Buf w0.heap.size w5 v5 ((l++ [45])++lmT ((xs.take (t+1)).map Int.toNat))):=hide (by
     rw[htk.out,lmT_snoc,←List.append_assoc,hLg.out]
     simpa using hb5)
    have kfin:Hid (Below w0.heap.size w w5):=hide (k4.out.trans k5)
    have ofin:Hid (Lib.OthersKept 5 none w w5):=hide (o4.out.trans o5)
    clear hb5 k5 o5 k4 o4 hb4
    go_wp2
    exact⟨⟨t+1,by omega,by go_num,hfin,kfin,ofin⟩,by simp[intOf];omega⟩
   obtain rfl:t=ln:=by omega
   rw[List.take_of_length_le (Nat.le_of_eq hxl)]at hrow
   go_wp2
   go_ret
   exact⟨_,rfl,(by simpa using hrow.out),kr.out,hor.out⟩
end Nt
end Go.Proofs.YtbgpddlcfiiiaaaGreatDoor
