/-
 Several texts in one: M5,M6,M7.
-/
import Derived.Test.YtbgpddlcfiiiaaaGreatDoorSbm07
import Derived.Test.YtbgpddlcfiiiaaaGreatDoorSbm06
set_option maxRecDepth 100000
set_option maxHeartbeats 3200000
namespace Go.Proofs.YtbgpddlcfiiiaaaGreatDoor
open Go.RowKit Mt

variable {w w':World}{b l B m cp:Nat}{n k c e:Int}{a ad:Option Addr}
def NL (w:World)(ad:Option Addr)(n:Nat)(L:List (Bool × List Int))(B:Nat):Prop:=
 L.length=n∧(n=0∨ ∃b off,ad=some ⟨b,off,none⟩∧∀i (_:i<L.length),∃a l c,w.cell? ⟨b,off+i*2,none⟩=some (.bool (L[i]).1)∧w.cell? ⟨b,off+i*2+1,none⟩=some (.slice a l c)∧Rd w a l c (L[i]).2∧l≤B)

def IntB (w:World)(b:Nat):Prop:=∀off v,w.cell? ⟨b,off,none⟩=some v→∃z,v= .int .i64 z

theorem MB.intB (h:MB w b n k c e):IntB w b:=by
 intro off v hv
 rw[cell_of_row w b off _ _ (0,0) h]at hv
 match off with
 |0=>exact⟨n,by simpa using hv.symm⟩
 |1=>exact⟨k,by simpa using hv.symm⟩
 |2=>exact⟨c*256+e,by simpa using hv.symm⟩
 |j+3=>simp at hv

theorem cell_lt {off:Nat}{v:Value}(h:w.cell? ⟨b,off,none⟩=some v):b<w.heap.size:=World.block_lt_of_cell? w ⟨b,off,none⟩ h
theorem But.cell {b2 off:Nat}{v:Value}(g:But b w w')(h:w.cell? ⟨b2,off,none⟩=some v)(hne:b2≠b):w'.cell? ⟨b2,off,none⟩=some v:=
 (World.cell?_of_block (w:=w) (g.block b2 (cell_lt h) hne)).trans h

theorem Rd.but {c:Nat}{xs:List Int}(h:Rd w a l c xs)(hi:IntB w b)(g:But b w w'):Rd w' a l c xs:=by
 obtain⟨h1,h2,h3,h4,h5⟩:=h
 refine⟨h1,h2,h3,h4,?_⟩
 rcases h5 with h5|⟨a0,ha,h5⟩
 ·exact .inl h5
 refine .inr ⟨a0,ha,?_⟩
 rcases h5 with h5|⟨b2,off,rfl,hlt,hc⟩
 ·exact .inl h5
 by_cases h0:l=0
 ·exact .inl h0
 have hne:b2≠b:=by
  rintro rfl
  obtain⟨z,hz⟩:=hi _ _ (hc 0 (by omega))
  cases hz
 exact .inr ⟨b2,off,rfl,Nat.lt_of_lt_of_le hlt g.size,fun i hi=>g.cell (hc i hi) hne⟩

theorem NL.below {n:Nat}{L:List (Bool × List Int)}(h:NL w ad n L B)(g:Below w.heap.size w w'):NL w' ad n L B:=by
 refine⟨h.1,?_⟩
 rcases h.2 with h|⟨b,off,rfl,h0⟩
 ·exact .inl h
 refine .inr ⟨b,off,rfl,fun i hi=> ?_⟩
 obtain⟨a,l,c,h1,h2,h3,h4⟩:=h0 i hi
 exact⟨a,l,c,(g.cell (p:=⟨b,off+i*2,none⟩) (cell_lt h1)).trans h1,(g.cell (p:=⟨b,off+i*2+1,none⟩) (cell_lt h2)).trans h2,h3.below g,h4⟩
def isl (k:Int)(x:Bool × List Int):Bool:=decide (k<(tl x.2 x.2.length:Int))

theorem sk7c {p:Nat}{c2 e2:Int}{s:Bool}{c:Nat}(y:ZB w p s a l c)(h:MB w b n k c2 e2)(g:Below w.heap.size w w'):
  w'.cell? ⟨p,0,none⟩=some (.bool s)∧w'.cell? ⟨p,1,none⟩=some (.slice a l c)∧w'.cell? ⟨b,1,none⟩=some (.int .i64 k)∧Below w.heap.size w w':=
 ⟨(y.below g).c0,(y.below g).c1,(h.below g).c1,g⟩

theorem islong_n {s:Bool}{cc:Nat}{xs:List Int}(h:MB w b n k c e)(hr:Rd w a l cc xs)(hl:l≤1099511627776):
  Calls Tryz.prog 138 #[.pointer (some ⟨b,0,none⟩),.agg #[.bool s,.slice a l cc]] w fun x w'=>x= .returned (.bool (isl k (s,xs)))∧Below w.heap.size w w':=by
 have hxl:=hr.1
 subst hxl
 unfold isl
 dsimp only
 generalize ht:(tl xs xs.length)=t
 have x:=zb_new w s a xs.length cc
 have b0:=below_alloc7 w (.cells #[.bool s,.slice a xs.length cc] 26)
 have hb:=h.below b0
 have hrb:=hr.below b0
 have HH:=hide (And.intro ht (And.intro x (And.intro b0 (And.intro hb hrb))))
 clear x b0 hb hrb ht
 go_enter Tryz.func138,Tryz.ntmps138
 go_wp2_with fail
 obtain⟨ht,x,b0,hb,hrb⟩:=HH.out
 clear HH h hr
 replace ht:=hide ht
 generalize w.alloc (.cells #[.bool s,.slice a xs.length cc] 26)=wb at*
 generalize hp:w.heap.size=p at*
 replace hp:=hide hp
 go_region_held3 (fun w'=>w'.cell? ⟨p,0,none⟩=some (.bool s)∧w'.cell? ⟨p,1,none⟩=some (.slice a xs.length cc)∧w'.cell? ⟨b,1,none⟩=some (.int .i64 k)∧Below wb.heap.size wb w')
  ((refine sk7c x hb ?_;(repeat' (first|with_reducible exact Below.refl _ _|with_reducible assumption|with_reducible refine step7 (by with_reducible assumption) ?_|with_reducible refine g7_drew ?_|with_reducible refine g7_alloc ?_ _|with_reducible refine g7_drewN ?_ _))))
  ((go_at_call 165;with_reducible refine(zlimbs_n (Rd.below hrb (by(repeat' (first|with_reducible exact Below.refl _ _|with_reducible assumption|with_reducible refine step7 (by with_reducible assumption) ?_|with_reducible refine g7_drew ?_|with_reducible refine g7_alloc ?_ _|with_reducible refine g7_drewN ?_ _)))) hl).mono ?_;rintro x w6 ⟨rfl,hg⟩;rw[ht.out]))
 rename_i hH
 have kf:=hide (b0.trans (hH.2.2.2.mono (hp.out▸b0.size)))
 clear hH b0 hg
 go_wp2
 go_ret
 exact⟨rfl,hp.out▸kf.out⟩

theorem index_n {L:List (Bool × List Int)}(h:MB w b n k c e)(hL:NL w ad m L B)(hB:B≤4194304)(hm:m≤4194304):
  Calls Tryz.prog 164 #[.slice ad m cp,.func (.func 138) #[.pointer (some ⟨b,0,none⟩)] #[]] w fun x w'=> ∃i:Int,x= .returned (.int .i64 i)∧(decide (0≤i)=L.any (isl k))∧-1≤i∧i<m∧Below w.heap.size w w':=by
 go_enter Tryz.func164,Tryz.ntmps164
 go_wp2_with fail
 go_loopw [8] (fun i wr=> ∃t:Nat,t≤m∧i= .int .i64 t∧Hid ((L.take t).any (isl k)=false)∧Hid (Below w.heap.size w wr)) (fun i _=>m-(intOf i).toNat)
 case atStart=>exact⟨0,Nat.zero_le _,rfl,(show _=_ by simp),Below.refl _ _⟩
 case round=>
  obtain⟨t,ht,rfl,hno,kr⟩:=hrel
  by_cases htm:t<m
  ·have hLl:=hL.1
   obtain⟨-,hLL⟩:=hL.below kr.out
   rcases hLL with h0|⟨bp,op,rfl,hLL⟩
   ·omega
   obtain⟨a,l,cc,e0,e1,hr,hl⟩:=hLL t (by omega)
   have hstep:Hid ((L.take (t+1)).any (isl k)=isl k L[t]):=(show _=_ by rw[List.take_succ_eq_append_getElem (l:=L) (i:=t) (by omega),List.any_append,hno.out];simp)
   have hex:Hid (isl k L[t]=true→L.any (isl k)=true):=(fun hh=>List.any_eq_true.2 ⟨L[t],List.getElem_mem _,hh⟩)
   generalize L[t]=lt at*
   obtain⟨ls,lx⟩:=lt
   dsimp only at*
   have hmb:=hide (h.below kr.out)
   clear hL hLL
   go_wp2_with fail
   refine(islong_n hmb.out hr (by omega)).mono ?_
   rintro x w2 ⟨rfl,k2⟩
   replace k2:=hide (step7 k2 kr.out)
   cases hil:isl k (ls,lx)with
   |true=>
    have hany:=hide (hex.out hil)
    replace hil:=hide hil
    go_wp2
    go_ret
    exact⟨t,rfl,by rw[hany.out];simp,by omega,by omega,k2.out⟩
   |false=>
    replace hil:=hide hil
    go_wp2
    go_round
    case rel=>exact⟨t+1,by omega,by go_num,hstep.out.trans hil.out,k2.out⟩
    case measure=>simp[intOf];omega
  obtain rfl:t=m:=by omega
  have hall:Hid (L.any (isl k)=false):=by
   have h1:=hno.out
   rw[List.take_of_length_le (by have:=hL.1;omega)]at h1
   exact h1
  clear hno
  go_wp2
  go_ret
  exact⟨-1,rfl,by rw[hall.out];rfl,by omega,by omega,kr.out⟩

theorem contains_n {L:List (Bool × List Int)}(h:MB w b n k c e)(hL:NL w ad m L B)(hB:B≤4194304)(hm:m≤4194304):
  Calls Tryz.prog 137 #[.slice ad m cp,.func (.func 138) #[.pointer (some ⟨b,0,none⟩)] #[]] w fun x w'=>x= .returned (.bool (L.any (isl k)))∧Below w.heap.size w w':=by
 go_enter Tryz.func137,Tryz.ntmps137
 go_wp2_with fail
 refine(index_n h hL hB hm).mono ?_
 rintro x w2 ⟨i,rfl,hi,hi1,hi2,k2⟩
 replace k2:=hide k2
 replace hi:=hide hi
 go_wp2
 go_ret
 exact⟨by rw[←hi.out];rfl,k2.out⟩

theorem node1_long {bl bm:Nat}(hx:BX w bl (.bool true) 4):
  Calls Tryz.prog 140 (#[.agg #[.int .i64 c,.int .i64 0]]++ #[.pointer (some ⟨bl,0,none⟩),.pointer (some ⟨bm,0,none⟩)]) w fun x w'=>
   x= .returned (.tuple #[.agg #[.int .i64 c,.int .i64 71],.int .i64 71])∧Below w.heap.size w w':=by
 show Calls Tryz.prog 140 #[.agg #[.int .i64 c,.int .i64 0],.pointer (some ⟨bl,0,none⟩),.pointer (some ⟨bm,0,none⟩)] w _
 have x0:=hx.c0
 have x1:=hx.lt
 have b0:=step7 (below_alloc7 (w.alloc (.cells #[.int .i64 c,.int .i64 0] 103)) (.cells #[.int .i64 0,.int .i64 0] 103)) (below_alloc7 w _)
 have y:=TL7.new (w.alloc (.cells #[.int .i64 c,.int .i64 0] 103)) 0 0
 rw[show(w.alloc (.cells #[.int .i64 c,.int .i64 0] 103)).heap.size=w.heap.size+1 from by simp]at y
 have HH:=hide (And.intro b0 y)
 clear b0 y
 go_enter Tryz.func140,Tryz.ntmps140
 go_wp2_with fail
 obtain⟨b0,y⟩:=HH.out
 clear HH x0 x1 hx
 generalize (w.alloc (.cells #[.int .i64 c,.int .i64 0] 103)).alloc (.cells #[.int .i64 0,.int .i64 0] 103)=wb at*
 have hr:w.heap.size≤w.heap.size+1:=by omega
 generalize w.heap.size+1=r at*
 refine cross_n.mono ?_
 rintro x w1 ⟨rfl,k1⟩
 have y1:=y.below k1
 have u0:=y1.c0
 have u1:=y1.c1
 have u2:=y1.f 0
 have u3:=y1.f 1
 have kf:=hide (((step7 k1 b0).setCell (p:=⟨r,0,none⟩) hr (.int .i64 c)).setCell (p:=⟨r,1,none⟩) hr (.int .i64 71))
 clear k1 b0
 go_wp2
 refine bodyPost_ret (results_ct7 rfl _ _ r 103 _ (0,0) _ rfl (y1.set c 71) Tryz.underlying103 rfl (by kernel_rfl)) rfl ?_
 exact⟨rfl,kf.out⟩

theorem node1_n {bn bm:Nat}{c2:Int}(h:MB w b n k c2 e)(hc:0≤c)(hcn:c≤n)(hn:n≤2000)(hx:BX w bn (.bool false) 4)(hm:BX w bm (.pointer (some ⟨b,0,none⟩)) 46):
  Calls Tryz.prog 140 (#[.agg #[.int .i64 c,.int .i64 0]]++ #[.pointer (some ⟨bn,0,none⟩),.pointer (some ⟨bm,0,none⟩)]) w fun x w'=>
   x= .returned (.tuple #[.agg #[.int .i64 (if n-c<1 then c else c+1),.int .i64 (if n-c<1 then 70 else 0)],.int .i64 (if n-c<1 then 70 else 0)])∧Below w.heap.size w w':=by
 show Calls Tryz.prog 140 #[.agg #[.int .i64 c,.int .i64 0],.pointer (some ⟨bn,0,none⟩),.pointer (some ⟨bm,0,none⟩)] w _
 generalize hr1:(if n-c<1 then c else c+1)=r1
 generalize hr2:(if n-c<1 then(70:Int)else 0)=r2
 replace hr1:=hide hr1
 replace hr2:=hide hr2
 have x0:=hx.c0
 have x1:=hx.lt
 have b0:=step7 (below_alloc7 (w.alloc (.cells #[.int .i64 c,.int .i64 0] 103)) (.cells #[.int .i64 0,.int .i64 0] 103)) (below_alloc7 w _)
 have x:=(TL7.new w c 0).below (below_alloc7 _ (.cells #[.int .i64 0,.int .i64 0] 103))
 have y:=TL7.new (w.alloc (.cells #[.int .i64 c,.int .i64 0] 103)) 0 0
 rw[show(w.alloc (.cells #[.int .i64 c,.int .i64 0] 103)).heap.size=w.heap.size+1 from by simp]at y
 have hb:=h.below b0
 have hxb:=hx.below b0
 have hmb:=hm.below b0
 have hxx:=hide (And.intro x y)
 have hbb:=hide (And.intro b0 (And.intro hb (And.intro hxb hmb)))
 clear x y hb hxb hmb b0
 go_enter Tryz.func140,Tryz.ntmps140
 go_wp2_with fail
 obtain⟨x,y⟩:=hxx.out
 obtain⟨b0,hb,hxb,hmb⟩:=hbb.out
 have m1:=hx.lt
 have m2:=hm.lt
 have m3:=h.lt
 clear hxx hbb x0 x1 hx hm h
 have n1:w.heap.size≠w.heap.size+1:=by omega
 have n2:b≠w.heap.size+1:=by omega
 have n3:bn≠w.heap.size+1:=by omega
 have n4:bm≠w.heap.size+1:=by omega
 clear m1 m2 m3
 generalize (w.alloc (.cells #[.int .i64 c,.int .i64 0] 103)).alloc (.cells #[.int .i64 0,.int .i64 0] 103)=wb at*
 have hr:w.heap.size≤w.heap.size+1:=by omega
 generalize w.heap.size+1=r at*
 generalize hp:w.heap.size=p at*
 replace hp:=hide hp
 have x0:=x.c0
 have x1:=x.c1
 have y0:=hb.c0
 have q0:=hxb.c0
 have q1:=hmb.c0
 go_region_with (go_at_call 142;with_reducible refine(count_n hc hcn hn (by decide)).mono ?_;rintro x w6 ⟨rfl,hg⟩;rw[hr1.out,hr2.out];have z0:=(TL7.below y (show Below wb.heap.size wb w6 by(repeat' (first|with_reducible exact Below.refl _ _|with_reducible assumption|with_reducible refine step7 (by with_reducible assumption) ?_|with_reducible refine g7_drew ?_|with_reducible refine g7_alloc ?_ _|with_reducible refine g7_drewN ?_ _)))).c0;have z1:=(TL7.below y (show Below wb.heap.size wb w6 by(repeat' (first|with_reducible exact Below.refl _ _|with_reducible assumption|with_reducible refine step7 (by with_reducible assumption) ?_|with_reducible refine g7_drew ?_|with_reducible refine g7_alloc ?_ _|with_reducible refine g7_drewN ?_ _)))).c1;have z2:=(TL7.below y (show Below wb.heap.size wb w6 by(repeat' (first|with_reducible exact Below.refl _ _|with_reducible assumption|with_reducible refine step7 (by with_reducible assumption) ?_|with_reducible refine g7_drew ?_|with_reducible refine g7_alloc ?_ _|with_reducible refine g7_drewN ?_ _)))).f 0;have z3:=(TL7.below y (show Below wb.heap.size wb w6 by(repeat' (first|with_reducible exact Below.refl _ _|with_reducible assumption|with_reducible refine step7 (by with_reducible assumption) ?_|with_reducible refine g7_drew ?_|with_reducible refine g7_alloc ?_ _|with_reducible refine g7_drewN ?_ _)))).f 1)
 all_goals
  have k6:Below wb.heap.size wb w6:=(by(repeat' (first|with_reducible exact Below.refl _ _|with_reducible assumption|with_reducible refine step7 (by with_reducible assumption) ?_|with_reducible refine g7_drew ?_|with_reducible refine g7_alloc ?_ _|with_reducible refine g7_drewN ?_ _)))
  have kf:=hide (((b0.trans (k6.mono (hp.out▸b0.size))).setCell (p:=⟨r,0,none⟩) hr (.int .i64 r1)).setCell (p:=⟨r,1,none⟩) hr (.int .i64 r2))
  have yf:=hide ((y.below k6).set r1 r2)
  clear b0 hg
  go_wp2
  refine bodyPost_ret (results_ct7 rfl _ _ r 103 _ (0,0) _ rfl yf.out Tryz.underlying103 rfl (by kernel_rfl)) rfl ?_
  exact⟨rfl,hp.out▸kf.out⟩


theorem node_n {L:List (Bool × List Int)}(h:MB w b n k c 0)(hL:NL w ad m L B)(hB:B≤4194304)(hm:m≤4194304)(hc:0≤c)(hcn:c≤n)(hn:n≤2000):
  Calls Tryz.prog 101 #[.pointer (some ⟨b,0,none⟩),.slice ad m cp] w fun x w'=>x= .returned (.int .i64 (if L.any (isl k)then 71 else if n-c<1 then 70 else 0))∧MB w' b n k (if L.any (isl k)then c else if n-c<1 then c else c+1) (if L.any (isl k)then 71 else if n-c<1 then 70 else 0)∧But b w w':=by
 have b0:=below_alloc7 w (.cells #[.pointer (some ⟨b,0,none⟩)] 46)
 have x:=BX.new w (.pointer (some ⟨b,0,none⟩)) 46
 have HH:=hide (And.intro b0 (And.intro x (And.intro (h.below b0) (hL.below b0))))
 clear b0 x
 cases hany:L.any (isl k)with
 |true=>
  simp only[if_true]
  replace hany:=hide hany
  go_enter Tryz.func101,Tryz.ntmps101
  go_wp2_with fail
  obtain⟨b0,x,hb,hLb⟩:=HH.out
  clear HH
  refine(contains_n hb hLb hB hm).mono ?_
  rintro v w1 ⟨rfl,k1⟩
  rw[hany.out]
  have b1:=step7 k1 b0
  have x1:=x.below k1
  have h1:=hb.below k1
  clear b0 x hb hLb k1
  have y:=BX.new w1 (.bool true) 4
  have b2:=below_alloc7 w1 (.cells #[.bool true] 4)
  have HH2:=hide (And.intro (step7 b2 b1) (And.intro y (And.intro (x1.below b2) (h1.below b2))))
  have z0:=x1.c0
  have z1:=x1.lt
  clear b1 b2 x1 h1 y
  go_wp2_with fail
  obtain⟨b0,y,x,hb⟩:=HH2.out
  clear HH2
  refine(change_go (c':=c) (e':=71) (r:=71) (fun _ _=>rfl) (fun w' hw=>node1_long (y.below hw)) hb hc (by omega) hc (by omega) (by decide) (by decide)).mono ?_
  rintro v w' ⟨rfl,m1,k1⟩
  have kf:=hide (And.intro m1 ((Below.but b0 b).trans k1))
  clear m1 k1 b0
  go_wp2
  go_ret
  exact⟨rfl,kf.out.1,kf.out.2⟩
 |false=>
  simp only[Bool.false_eq_true,if_false]
  generalize hr1:(if n-c<1 then c else c+1)=r1
  generalize hr2:(if n-c<1 then(70:Int)else 0)=r2
  replace hr1:=hide hr1
  replace hr2:=hide hr2
  replace hany:=hide hany
  go_enter Tryz.func101,Tryz.ntmps101
  go_wp2_with fail
  obtain⟨b0,x,hb,hLb⟩:=HH.out
  clear HH
  refine(contains_n hb hLb hB hm).mono ?_
  rintro v w1 ⟨rfl,k1⟩
  rw[hany.out]
  have b1:=step7 k1 b0
  have x1:=x.below k1
  have h1:=hb.below k1
  clear b0 x hb hLb k1
  have y:=BX.new w1 (.bool false) 4
  have b2:=below_alloc7 w1 (.cells #[.bool false] 4)
  have HH2:=hide (And.intro (step7 b2 b1) (And.intro y (And.intro (x1.below b2) (h1.below b2))))
  have z0:=x1.c0
  have z1:=x1.lt
  clear b1 b2 x1 h1 y
  go_wp2_with fail
  obtain⟨b0,y,x,hb⟩:=HH2.out
  clear HH2
  refine(change_go (c':=if n-c<1 then c else c+1) (e':=if n-c<1 then 70 else 0) (r:=if n-c<1 then 70 else 0) (fun _ _=>rfl) (fun w' hw=>node1_n (hb.below hw) hc hcn hn (y.below hw) (x.below hw)) hb hc (by omega) (by split <;> omega) (by split <;> omega) (by split <;> decide) (by split <;> decide)).mono ?_
  rw[hr1.out,hr2.out]
  rintro v w' ⟨rfl,m1,k1⟩
  have kf:=hide (And.intro m1 ((Below.but b0 b).trans k1))
  clear m1 k1 b0
  go_wp2
  go_ret
  exact⟨rfl,kf.out.1,kf.out.2⟩

theorem node_over {L:List (Bool × List Int)}(h:MB w b n k c e)(hL:NL w ad m L B)(hB:B≤4194304)(hm:m≤4194304)(hc:0≤c)(hcn:c≤2000)(he:0<e)(he2:e<256):
  Calls Tryz.prog 101 #[.pointer (some ⟨b,0,none⟩),.slice ad m cp] w fun x w'=>x= .returned (.int .i64 e)∧Below w.heap.size w w':=by
 have b0:=below_alloc7 w (.cells #[.pointer (some ⟨b,0,none⟩)] 46)
 have x:=BX.new w (.pointer (some ⟨b,0,none⟩)) 46
 have HH:=hide (And.intro b0 (And.intro x (And.intro (h.below b0) (hL.below b0))))
 clear b0 x
 generalize hv:L.any (isl k)=v
 replace hv:=hide hv
 go_enter Tryz.func101,Tryz.ntmps101
 go_wp2_with fail
 obtain⟨b0,x,hb,hLb⟩:=HH.out
 clear HH
 refine(contains_n hb hLb hB hm).mono ?_
 rintro v w1 ⟨rfl,k1⟩
 rw[hv.out]
 have b1:=step7 k1 b0
 have x1:=x.below k1
 have h1:=hb.below k1
 clear b0 x hb hLb k1
 have b2:=below_alloc7 w1 (.cells #[.bool v] 4)
 have HH2:=hide (And.intro (step7 b2 b1) (And.intro (x1.below b2) (h1.below b2)))
 have z0:=x1.c0
 have z1:=x1.lt
 clear b1 b2 x1 h1
 go_wp2_with fail
 obtain⟨b0,x,hb⟩:=HH2.out
 clear HH2
 refine(change_over hb hc hcn he he2).mono ?_
 rintro v w' ⟨rfl,k1⟩
 have kf:=hide (step7 k1 b0)
 clear k1 b0
 go_wp2
 go_ret
 exact⟨rfl,kf.out⟩
end Go.Proofs.YtbgpddlcfiiiaaaGreatDoor
