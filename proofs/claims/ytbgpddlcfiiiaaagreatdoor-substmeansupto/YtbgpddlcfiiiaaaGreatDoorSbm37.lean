/-
 Several texts in one: JV,JW,JX,JY,JZ.
-/
import Derived.Test.YtbgpddlcfiiiaaaGreatDoorSbmT
import Derived.Test.YtbgpddlcfiiiaaaGreatDoorSbm36
import Derived.Lib.AppendZerosOnto
set_option maxRecDepth 100000
set_option maxHeartbeats 6400000
namespace Go.Proofs.YtbgpddlcfiiiaaaGreatDoor
open Go.RowKit Go.Sort Go.Shelf
open Tm At
namespace Nt

theorem app9s {w:World}{ops:Array Oper}{rest:List Oper}{o:Oper}{a:Act}{Q:Exit→Act→World→Prop}(hgd:o.guard=none)(s x:Operand)(ho:o.op= .call {callee:=.builtin .append,args:=#[s,x],argTypes:=#[228,228]})(base:Nat)(v:Value)(n:Nat)(rs:List Mr)(hs:a.eval s=v)(hown:w.ownsRow base 233 9 v n (flat9 rs))
  (v2:Value)(b2 m:Nat)(ls:List Mr)(hx:a.eval x=v2)(hc:w.ownsRow b2 233 9 v2 m (flat9 ls))(h63:n+m≤1048576)(hbase:base≤w.heap.size)
  (h: ∀v' w',w'.ownsRow base 233 9 v' (n+m) (flat9 (rs++ls))→w.grownBy w' v.ownBlock→wpList Tryz.prog ops Q rest (a.put o.dst v') w'):wpList Tryz.prog ops Q (o::rest) a w:=by
 obtain⟨i0,hi,hz0,hz1,hz2⟩:=info_parts info9
 have e:flat9 (rs++ls)=flat9 rs++flat9 ls:=by simp[flat9]
 rcases hc.2 with⟨rfl,rfl⟩|⟨g,cap,cur,rfl,e1,e2,e3,e4,e5,e6⟩
 ·have h0:ls= []:=List.eq_nil_of_length_eq_zero (by have:=hc.1;rw[flat9_length]at this;omega)
  subst h0
  refine wpList_append_own_none hgd s x 228 ho base 233 i0 9 Tryz.underlying228 hi v n (flat9 rs) hs hown hx ?_
  exact h v w (by rw[List.append_nil];exact hown) ⟨rfl,rfl,rfl,Nat.le_refl _,fun _ _ _=>rfl⟩
 refine wpList_append_own_at w hgd s x 228 ho base 233 i0 _ 9 136 Tryz.underlying228 hi hz0 hz1 hz2 rfl (by decide) v n (flat9 rs) hs hown ⟨g,0,none⟩ m cap (flat9 ls) hx (by have:=hc.1;omega) (fun j u hu=> ?_) (fun u hu=> ?_) (by unfold maxLen;omega) o_m hbase ?_
 ·exact hc.cells rfl j u hu
 ·obtain⟨y,hy,hu2⟩:=List.mem_flatMap.1 hu
  exact enc9_one y u hu2
 intro v' w' h1 h2 _ _
 exact h v' w' (by rw[e];exact h1) h2
theorem grow9_n {w:World}{n:Nat}(hn:n≤1048000):
  Calls Tryz.prog 220 #[.slice none 0 0,.int .i64 n] w fun e w'=> ∃v,e= .returned v∧w'.ownsRow w.heap.size 233 9 v 0 (flat9 [])∧Below w.heap.size w w':=by
 by_cases h0:n=0
 ·subst h0
  go_enter Tryz.func220,Tryz.ntmps220
  go_wp2_with fail
  go_ret
  exact⟨_,rfl,World.ownsRow_nil _ _ _ _,Below.refl _ _⟩
 obtain⟨i0,hi,hz0,hz1,hz2⟩:=info_parts info9
 have hrz: ∀ty,(Builtin.append_ #[228,3] ty #[.slice none 0 0,.int .i64 n]).run Tryz.prog w=
   .ok (.slice (some ⟨w.heap.size,0,none⟩) n (grownCap w n 0 233)) (w.drew.alloc (.cells (#[]++Builtin.zeroCells zM.cells n++Builtin.zeroCells zM.cells (grownCap w n 0 233-n)) 233)):=fun ty=>by
  have h:=Lib.run_append_grow_zeros w 228 3 ty 233 i0 zM .i64 .i64 Tryz.underlying228 Tryz.underlying3 hi hz0 none 0 0 [] (run_firstCells_none _ _ 0 0 0) n (by omega) (by rw[hz1];decide) (by omega) (by omega) (by rw[hz2];omega) (growslice_fits (by omega) (by rw[hz2];omega))
  rw[Nat.zero_add]at h
  exact h
 have hge:=grownCap_ge w n 0 233
 have hle:=grownCap_le_maxLen w n 0 233 (by unfold maxLen;omega)
 generalize grownCap w n 0 233=G at*
 have hrow:Hid ((w.drew.alloc (.cells (#[]++Builtin.zeroCells zM.cells n++Builtin.zeroCells zM.cells (G-n)) 233)).ownsRow w.heap.size 233 9 (.slice (some ⟨w.heap.size,0,none⟩) 0 G) 0 (flat9 [])):=hide ⟨rfl,.inr ⟨w.heap.size,G,_,rfl,Nat.le_refl _,heap_alloc_new w.drew _,Nat.zero_le _,hle,by simp[Builtin.zeroCells,zM,Value.cells];omega,rfl⟩⟩
 have hbel:Hid (Below w.heap.size w (w.drew.alloc (.cells (#[]++Builtin.zeroCells zM.cells n++Builtin.zeroCells zM.cells (G-n)) 233))):=hide (below_alloc' (below_drew2 (Below.refl _ _)) _)
 generalize w.drew.alloc (.cells (#[]++Builtin.zeroCells zM.cells n++Builtin.zeroCells zM.cells (G-n)) 233)=w2 at*
 have hn0:(0:Int)<(n:Int):=by omega
 go_enter Tryz.func220,Tryz.ntmps220
 clear hi hz0 hz1 hz2
 go_wp2_with(at_builtin;go_loud(refine Lib.wpList_append_run _ rfl _ _ _ _ rfl _ _ rfl rfl _ _ (hrz _) ?_))
 all_goals go_ret
 all_goals exact⟨_,rfl,hrow.out,hbel.out⟩
theorem concat_n {w:World}{s0 b:Nat}{v1 v2 v3:Value}{l1 l2 l3:List Mr}(h1:w.ownsRow s0 233 9 v1 l1.length (flat9 l1))(h2:w.ownsRow s0 233 9 v2 l2.length (flat9 l2))(h3:w.ownsRow s0 233 9 v3 l3.length (flat9 l3))(hb:w.heap[b]? =some (.cells #[v1,v2,v3] 228 (0,0)))(hl1:l1.length≤300000)(hl2:l2.length≤300000)(hl3:l3.length≤300000):
  Calls Tryz.prog 189 #[.slice (some ⟨b,0,none⟩) 3 3] w fun e w'=> ∃v,e= .returned v∧w'.ownsRow w.heap.size 233 9 v (l1++l2++l3).length (flat9 (l1++l2++l3))∧Below w.heap.size w w':=by
 obtain⟨a1,c1,rfl⟩:=row9_form h1
 obtain⟨a2,c2,rfl⟩:=row9_form h2
 obtain⟨a3,c3,rfl⟩:=row9_form h3
 have hbl:=lt_of_block hb
 have u0:w.cell? ⟨b,0,none⟩=some (.slice a1 l1.length c1):=cell_of_row w b 0 _ _ (0,0) hb
 have u1:w.cell? ⟨b,1,none⟩=some (.slice a2 l2.length c2):=cell_of_row w b 1 _ _ (0,0) hb
 have u2:w.cell? ⟨b,2,none⟩=some (.slice a3 l3.length c3):=cell_of_row w b 2 _ _ (0,0) hb
 go_enter Tryz.func189,Tryz.ntmps189
 go_wp2_with fail
 refine wp_loop_rounds 4 ?_
 rw[rounds_succ]
 go_wp2_with fail
 have w2:IntKind.i64.wrap ((l1.length:Int)+(l2.length:Int))=(l1.length:Int)+(l2.length:Int):=by rw[IntKind.wrap_i64];omega
 have n2:(0:Int)≤(l1.length:Int)+(l2.length:Int):=by omega
 have w3:IntKind.i64.wrap ((l1.length:Int)+(l2.length:Int)+(l3.length:Int))=(l1.length:Int)+(l2.length:Int)+(l3.length:Int):=by rw[IntKind.wrap_i64];omega
 have n3:(0:Int)≤(l1.length:Int)+(l2.length:Int)+(l3.length:Int):=by omega
 rw[rounds_succ]
 go_wp2_with fail
 rw[rounds_succ]
 go_wp2_with fail
 rw[rounds_succ]
 have hgrow:=grow9_n (w:=w) (n:=l1.length+l2.length+l3.length) o_m
 rw[Int.natCast_add,Int.natCast_add]at hgrow
 replace hgrow:=hide hgrow
 go_wp2_with(go_at_call 220;refine hgrow.out.mono ?_;rintro e w1 ⟨v,rfl,r1,k1⟩)
 have hU:Hid (∀w',Below w.heap.size w w'→w'.cell? ⟨b,0,none⟩=some (.slice a1 l1.length c1)∧w'.cell? ⟨b,1,none⟩=some (.slice a2 l2.length c2)∧w'.cell? ⟨b,2,none⟩=some (.slice a3 l3.length c3)∧w'.ownsRow s0 233 9 (.slice a1 l1.length c1) l1.length (flat9 l1)∧w'.ownsRow s0 233 9 (.slice a2 l2.length c2) l2.length (flat9 l2)∧w'.ownsRow s0 233 9 (.slice a3 l3.length c3) l3.length (flat9 l3)):=hide fun w' k=>⟨(k.cell (p:=⟨b,0,none⟩) hbl).trans u0,(k.cell (p:=⟨b,1,none⟩) hbl).trans u1,(k.cell (p:=⟨b,2,none⟩) hbl).trans u2,own_below h1 k,own_below h2 k,own_below h3 k⟩
 replace r1:=hide r1
 replace k1:=hide k1
 clear h1 h2 h3 hb u0 u1 u2 hgrow w2 w3 n2 n3
 refine wp_loop_rounds 4 ?_
 have s1:=hU.out w1 k1.out
 have e0:=s1.1
 have q1:=hide s1.2.2.2.1
 have z1:=k1.out.size
 clear s1
 rw[rounds_succ]
 go_wp2_with(at_builtin;refine app9s rfl _ _ rfl w.heap.size v 0 [] rfl r1.out (.slice a1 l1.length c1) s0 l1.length l1 rfl q1.out o_m z1 ?_;intro v2 w2 ho hg;have k2:=hide (k1.out.grown hg z1 fun b hb=>(r1.out.lt b hb).1);have r2:=hide ho;clear ho hg r1 q1 k1 e0)
 rw[List.nil_append,Nat.zero_add]at r2
 have s2:=hU.out w2 k2.out
 have e1:=s2.2.1
 have q2:=hide s2.2.2.2.2.1
 have z2:=k2.out.size
 clear s2
 rw[rounds_succ]
 go_wp2_with(at_builtin;refine app9s rfl _ _ rfl w.heap.size v2 l1.length l1 rfl r2.out (.slice a2 l2.length c2) s0 l2.length l2 rfl q2.out o_m z2 ?_;intro v3 w3 ho hg;have k3:=hide (k2.out.grown hg z2 fun b hb=>(r2.out.lt b hb).1);have r3:=hide ho;clear ho hg r2 q2 k2 e1)
 have s3:=hU.out w3 k3.out
 have e2:=s3.2.2.1
 have q3:=hide s3.2.2.2.2.2
 have z3:=k3.out.size
 clear s3
 rw[rounds_succ]
 go_wp2_with(at_builtin;refine app9s rfl _ _ rfl w.heap.size v3 (l1.length+l2.length) (l1++l2) rfl r3.out (.slice a3 l3.length c3) s0 l3.length l3 rfl q3.out o_m z3 ?_;intro v4 w4 ho hg;have k4:=hide (k3.out.grown hg z3 fun b hb=>(r3.out.lt b hb).1);have r4:=hide ho;clear ho hg r3 q3 k3 e2 hU)
 rw[rounds_succ]
 go_wp2_with fail
 go_ret
 exact⟨v4,rfl,by rw[List.length_append,List.length_append];exact r4.out,k4.out⟩
end Nt
namespace Nt

theorem ao2_back {w w1 w':World}{e:Ending}{pa pm:Nat}{nn kk:Int}{F:Nat→Prop}{r:St × Int × Int}(k:Below w.heap.size w w1)(h:AO2 w1 w' e pa pm nn kk F r):AO2 w w' e pa pm nn kk F r:=by
 obtain⟨h1,F',h2,h3,h4⟩:=h
 exact⟨h1,F',h2,fun b hb=>(h3 b hb).imp id fun h=>Nat.le_trans k.size h,ButF.trans (butF_below k) h4 fun _ _ h=>h⟩
def SJ (w w':World)(e:Ending)(pa pm:Nat)(nn kk:Int)(F:Nat→Prop)(s:St)(kd dual idle rul sg:Int)(ids:List Int):Prop:=
 ∃r,SimpR nn kk s kd dual idle rul sg ids r∧AO2 w w' e pa pm nn kk F r
theorem lie_of {kk:Int}{L:List Nd}{M:Int→Prop}{rs ls:List Mr}{w0 w:World}{s0:Nat}(hV:Gv kk L)(hb:Mb9 L M rs)(hN: ∀m∈rs,NC (fun _=>True) w0 m.x m.n 2097152)(hk:Below w0.heap.size w0 w)(hs:w0.heap.size≤s0)(hl: ∀m∈ls,m∈rs∧(m.n.kind=2∨m.n.kind=3∨m.n.kind=4)):Lie w0 w s0 ls:=
 ⟨fun m hm=>⟨hN m (hl m hm).1,by
  have h:=hl m hm
  have hn:=hb.n m h.1
  rw[hn]
  exact(less_ps hV (hb.ok _ ((hb.m _).2 ⟨m,h.1,rfl⟩)) (by rw[←hn];exact h.2)).1⟩,hk,hs⟩
theorem join9_n {w:World}{pa pm:Nat}{nn kk:Int}{s:St}{F:Nat→Prop}{kd dual idle rul sg:Int}{K kc:Nat}{ka:Option Addr}{ids:List Int}(hlw:Law5 kd dual idle rul sg)(hK:LwK K sg)(hG:AG w pa pm nn kk s F)(hV:Gv kk s.L)(h0:0≤kk)(hkk:kk≤2097152)(hI:IL w ka ids.length ids)(hil:ids.length≤100000)(htab:Tab w):
  Calls Tryz.prog 148 #[.agg (lwV kd dual idle rul K),.pointer (some ⟨pa,0,none⟩),.slice ka ids.length kc] w fun e w'=>SJ w w' e pa pm nn kk F s kd dual idle rul sg ids:=by
 have hkd2:kd=5∨kd=6:=by unfold Law5 at hlw;omega
 have hsg:sg=1∨sg= -1:=by unfold Law5 at hlw;omega
 have hll:s.L.length≤2002:=by have h1:=hG.ln;have h2:=hG.cn;have h3:=hG.n2;omega
 have b1:=below_alloc w (.cells #[.int .i64 kd,.int .i64 dual,.int .i64 idle,.int .i64 rul,.func (.func K) #[] #[]] 200)
 have hL:LwB (w.alloc (.cells #[.int .i64 kd,.int .i64 dual,.int .i64 idle,.int .i64 rul,.func (.func K) #[] #[]] 200)) w.heap.size kd dual idle rul K:=heap_alloc_new w _
 have hspread:=spread_n (w:=w.alloc (.cells #[.int .i64 kd,.int .i64 dual,.int .i64 idle,.int .i64 rul,.func (.func K) #[] #[]] 200)) (dual:=dual) (idle:=idle) (rul:=rul) (K:=K) (kc:=kc) hkd2 (hG.below b1) hV h0 hkk (hI.below b1) hil
 simp only[lwV]at hspread ⊢
 replace hspread:=hide hspread
 have hLc:Hid (∀w',Below (w.alloc (.cells #[.int .i64 kd,.int .i64 dual,.int .i64 idle,.int .i64 rul,.func (.func K) #[] #[]] 200)).heap.size (w.alloc (.cells #[.int .i64 kd,.int .i64 dual,.int .i64 idle,.int .i64 rul,.func (.func K) #[] #[]] 200)) w'→LwB w' w.heap.size kd dual idle rul K∧Below w.heap.size w w'):=hide fun w' k=>⟨hL.below k,grow_step k b1⟩
 go_enter Tryz.func148,Tryz.ntmps148
 clear hL b1
 go_wp2_with fail
 refine hspread.out.mono ?_
 rintro e w2 ⟨k2,hcs⟩
 clear hspread
 have hL2:=hLc.out w2 k2
 rcases hcs with⟨hbad,rfl⟩|⟨hall,v,rs,rfl,hrow,hMb,hrl,hNC⟩
 ·have hfin:Hid (SJ w w2 (.returned (.tuple #[.int .i64 0,.int .i64 80])) pa pm nn kk F s kd dual idle rul sg ids):=hide ⟨(s,0,80),.inl ⟨hbad,rfl⟩,ao2_now hG hL2.2 0 80⟩
  clear hLc hL2 k2 hbad hI htab
  go_wp2_with fail
  refine bodyPost_ret (results_tmp2 rfl _ _ _) rfl ?_
  exact hfin.out
 have ul0:=hL2.1.c0
 have ul1:=hL2.1.c1
 have ul2:=hL2.1.c2
 have ul3:=hL2.1.c3
 have ul4:=hL2.1.c4
 have hlt2:=hL2.1.lt
 have hcont:=containsM_n (kd:=kd) (dual:=dual) (idle:=idle) (rul:=rul) (K:=K) hrow rfl o_m
 simp only[lwV]at hcont
 replace hcont:=hide hcont
 obtain⟨av,cv,rfl⟩:=row9_form hrow
 replace hrow:=hide hrow
 replace hMb:=hide hMb
 replace hNC:=hide hNC
 replace hL2:=hide hL2
 replace k2:=hide k2
 go_wp2_with fail
 refine hcont.out.mono ?_
 rintro e w3 ⟨rfl,k3⟩
 replace k3:=hide k3
 clear hcont
 cases hany:rs.any fun m=>m.id==rul
 ·have hpart:=hide (parted_n (own_below hrow.out k3.out) rfl o_m fun m hm=>(hNC.out m hm).kd)
  have hNC3:Hid (∀m∈rs,NC (fun _=>True) w3 m.x m.n 2097152):=hide fun m hm=>NC.below (hNC.out m hm) k3.out
  have hL3:=hide (hLc.out w3 (grow_step k3.out k2.out))
  have hnr:Hid (¬Mem s.L kd idle ids rul):=hide fun hm=>by
   obtain⟨m,hm1,hm2⟩:=(hMb.out.m rul).1 hm
   have h9:=List.any_eq_false.1 hany m hm1
   simp[hm2]at h9
  have ul0:=hL3.out.1.c0
  have ul1:=hL3.out.1.c1
  have ul2:=hL3.out.1.c2
  have ul3:=hL3.out.1.c3
  have ul4:=hL3.out.1.c4
  have hlt3:=hL3.out.1.lt
  clear hany hNC hL2 hrow hlt2
  go_wp2_with fail
  refine hpart.out.mono ?_
  rintro e w4 ⟨v1,v2,v3,rfl,hR,k4⟩
  clear hpart ul0 ul1 ul2 ul3 ul4
  have p1m: ∀m,m∈rs.filter p1↔m∈rs∧m.n.kind=2:=fun m=>by rw[List.mem_filter];unfold p1;rw[beq_iff_eq]
  have p2m: ∀m,m∈rs.filter p2↔m∈rs∧(m.n.kind=3∨m.n.kind=4):=fun m=>by rw[List.mem_filter];unfold p2;rw[Bool.or_eq_true,beq_iff_eq,beq_iff_eq]
  have f1l:=List.length_filter_le p1 rs
  have f2l:=List.length_filter_le p2 rs
  have f3l:=List.length_filter_le p3 rs
  have hli1:=lie_of (s0:=w3.heap.size) hV hMb.out hNC3.out k4 (Nat.le_refl _) (ls:=rs.filter p1) fun m hm=>⟨((p1m m).1 hm).1,.inl ((p1m m).1 hm).2⟩
  have hstay:=staying_n (kd:=kd) (dual:=dual) (idle:=idle) (rul:=rul) hK hR.r1 o_m hli1
  simp only[lwV]at hstay
  replace hstay:=hide hstay
  have hL4:=hide (hLc.out w4 (grow_step k4 (grow_step k3.out k2.out)))
  have ul0:=hL4.out.1.c0
  have ul1:=hL4.out.1.c1
  have ul2:=hL4.out.1.c2
  have ul3:=hL4.out.1.c3
  have ul4:=hL4.out.1.c4
  have hlt4:=hL4.out.1.lt
  obtain⟨av1,cv1,rfl⟩:=row9_form hR.r1
  obtain⟨av2,cv2,rfl⟩:=row9_form hR.r2
  obtain⟨av3,cv3,rfl⟩:=row9_form hR.r3
  replace hR:=hide hR
  replace k4:=hide k4
  replace p1m:=hide p1m
  replace p2m:=hide p2m
  clear hli1 hL3
  go_wp2_with fail
  refine hstay.out.mono ?_
  rintro e w5 ⟨v1',ls,d,rfl,hpm,hlf,hd,hob,g5⟩
  clear hstay ul0 ul1 ul2 ul3 ul4
  have k5:Below w3.heap.size w3 w5:=k4.out.grown g5 k4.out.size fun b hb=>(hR.out.r1.lt b hb).1
  have hr2:=hR.out.r2.kept g5 hR.out.a12.ne
  have hr3:=hR.out.r3.kept g5 hR.out.a13.ne
  have ha12:Ap v1' (.slice av2 (rs.filter p2).length cv2):=fun b hb=>hR.out.a12 b (hob▸hb)
  have ha13:Ap v1' (.slice av3 (rs.filter p3).length cv3):=fun b hb=>hR.out.a13 b (hob▸hb)
  have ha23:=hR.out.a23
  have hdl:d.length≤rs.length:=Nat.le_trans hlf.sub.length_le (by rw[hpm.length_eq];exact f1l)
  have hdm: ∀m∈d,m∈rs∧m.n.kind=2:=fun m hm=>(p1m.out m).1 (hpm.mem_iff.1 (hlf.sub.mem hm))
  have hli5:=lie_of (s0:=w3.heap.size) hV hMb.out hNC3.out k5 (Nat.le_refl _) (ls:=d) fun m hm=>⟨(hdm m hm).1,.inl (hdm m hm).2⟩
  have hcl:=clash_n (kd:=kd) (dual:=dual) (idle:=idle) (rul:=rul) hK hd o_m hli5
  rw[show(fun(e:Ending) (w':World)=> ∃b,e= .returned (.bool b)∧(b=true↔HP (fun x y=>ordL (lnP x.n.ps) (lnP y.n.ps)) (fun x y=>decide (cmpI (sg*(x.n.k+y.n.k)) (sg*1)≤0)) d 0)∧Below w5.heap.size w5 w')=fun e w'=> ∃b,e= .returned (.bool b)∧(b=true↔Clash s.L sg (Mem s.L kd idle ids))∧Below w5.heap.size w5 w' by simp only[clash_iff hV hsg hMb.out hpm hlf]]at hcl
  simp only[lwV]at hcl
  replace hcl:=hide hcl
  have hL5:=hide (hLc.out w5 (grow_step k5 (grow_step k3.out k2.out)))
  have ul0:=hL5.out.1.c0
  have ul1:=hL5.out.1.c1
  have ul2:=hL5.out.1.c2
  have ul3:=hL5.out.1.c3
  have ul4:=hL5.out.1.c4
  have hlt5:=hL5.out.1.lt
  obtain⟨av1',cv1',rfl⟩:=row9_form hd
  replace hpm:=hide hpm
  replace hlf:=hide hlf
  replace hd:=hide hd
  replace hr2:=hide hr2
  replace hr3:=hide hr3
  replace ha12:=hide ha12
  replace ha13:=hide ha13
  replace ha23:=hide ha23
  replace hdm:=hide hdm
  replace k5:=hide k5
  clear hob g5 hR hL4 hli5 hlt4 k4
  go_wp2_with fail
  refine hcl.out.mono ?_
  rintro e w6 ⟨b1,rfl,hb1,k6⟩
  replace k6:=hide k6
  clear hcl ul0 ul1 ul2 ul3 ul4
  have k36:=hide (grow_step k6.out k5.out)
  have hL6:=hide (hLc.out w6 (grow_step k36.out (grow_step k3.out k2.out)))
  have ul0:=hL6.out.1.c0
  have ul1:=hL6.out.1.c1
  have ul2:=hL6.out.1.c2
  have ul3:=hL6.out.1.c3
  have ul4:=hL6.out.1.c4
  have hlt6:=hL6.out.1.lt
  cases b1 with
  |true=>
   have hfin:Hid (SJ w w6 (.returned (.tuple #[.int .i64 rul,.int .i64 0])) pa pm nn kk F s kd dual idle rul sg ids):=hide ⟨(s,rul,0),.inr ⟨hall,.inl ⟨.inr (.inl (hb1.1 rfl)),rfl⟩⟩,ao2_now hG hL6.out.2 rul 0⟩
   clear hb1 hr2 hr3 hd hL5 hL6 hMb hNC3 hLc hpm hlf hdm ha12 ha13 ha23 k5 k36 k6 k3 k2 hnr
   go_wp2_with fail
   refine bodyPost_ret (results_tmp2 rfl _ _ _) rfl ?_
   exact hfin.out
  |false=>
   have hnc:Hid (¬Clash s.L sg (Mem s.L kd idle ids)):=hide fun h=>by cases hb1.2 h
   have hopp:=hide (opposed_n (own_below hr2.out k6.out) o_m (lie_of (s0:=w3.heap.size) hV hMb.out hNC3.out k36.out (Nat.le_refl _) (ls:=rs.filter p2) fun m hm=>⟨((p2m.out m).1 hm).1,.inr ((p2m.out m).1 hm).2⟩))
   clear hb1 hL5
   go_wp2_with fail
   refine hopp.out.mono ?_
   rintro e w7 ⟨b2,es,rfl,hq,hsort,hb2,hr2',g7⟩
   rw[oppos_iff hV hMb.out hq hsort]at hb2
   have k7:Below w3.heap.size w3 w7:=k36.out.grown g7 k36.out.size fun b hb=>(hr2.out.lt b hb).1
   have hd7:=hide ((own_below hd.out k6.out).kept g7 ha12.out.symm.ne)
   have hr37:=hide ((own_below hr3.out k6.out).kept g7 ha23.out.ne)
   have hL7:=hide (hLc.out w7 (grow_step k7 (grow_step k3.out k2.out)))
   clear hopp ul0 ul1 ul2 ul3 ul4 g7 hsort hd hr2 hr3 ha12 ha13 ha23 hL6 k6 k36 k5 hlt6 hlt5
   have ul3:=hL7.out.1.c3
   have hlt7:=hL7.out.1.lt
   cases b2 with
   |true=>
    have hfin:Hid (SJ w w7 (.returned (.tuple #[.int .i64 rul,.int .i64 0])) pa pm nn kk F s kd dual idle rul sg ids):=hide ⟨(s,rul,0),.inr ⟨hall,.inl ⟨.inr (.inr (hb2.1 rfl)),rfl⟩⟩,ao2_now hG hL7.out.2 rul 0⟩
    clear hb2 hr2' hr37 hd7 hL7 hMb hNC3 hLc hpm hlf hdm k3 k2 hnr k7 hq hnc
    go_wp2_with fail
    refine bodyPost_ret (results_tmp2 rfl _ _ _) rfl ?_
    exact hfin.out
   |false=>
    have hno:Hid (¬Oppos s.L (Mem s.L kd idle ids)):=hide fun h=>by cases hb2.2 h
    have hS:Hid (∀w',Below w7.heap.size w7 w'→w'.cell? ⟨w.heap.size,0,none⟩=some (.int .i64 kd)∧w'.cell? ⟨w.heap.size,1,none⟩=some (.int .i64 dual)∧w'.cell? ⟨w.heap.size,2,none⟩=some (.int .i64 idle)∧w'.cell? ⟨w.heap.size,3,none⟩=some (.int .i64 rul)∧w'.cell? ⟨w.heap.size,4,none⟩=some (.func (.func K) #[] #[])):=hide fun w' k=>by
     have h1:=hL7.out.1.below k
     exact⟨h1.c0,h1.c1,h1.c2,h1.c3,h1.c4⟩
    replace hr2':=hide hr2'
    replace hq:=hide hq
    replace k7:=hide k7
    clear hb2
    have hes:es.length=(rs.filter p2).length:=hq.out.length_eq
    have hb8:Hid ((w7.alloc (.cells #[.slice av1' d.length cv1',.slice av2 (rs.filter p2).length cv2,.slice av3 (rs.filter p3).length cv3] 228)).drew.heap[w7.heap.size]? =some (.cells #[.slice av1' d.length cv1',.slice av2 (rs.filter p2).length cv2,.slice av3 (rs.filter p3).length cv3] 228 (0,0))):=hide (heap_alloc_new w7 (.cells #[.slice av1' d.length cv1',.slice av2 (rs.filter p2).length cv2,.slice av3 (rs.filter p3).length cv3] 228))
    have k8:Hid (Below w7.heap.size w7 (w7.alloc (.cells #[.slice av1' d.length cv1',.slice av2 (rs.filter p2).length cv2,.slice av3 (rs.filter p3).length cv3] 228)).drew):=hide (below_drew2 (below_alloc w7 (.cells #[.slice av1' d.length cv1',.slice av2 (rs.filter p2).length cv2,.slice av3 (rs.filter p3).length cv3] 228)))
    have hcon:Hid (∀w8,w8.heap[w7.heap.size]? =some (.cells #[.slice av1' d.length cv1',.slice av2 (rs.filter p2).length cv2,.slice av3 (rs.filter p3).length cv3] 228 (0,0))→Below w7.heap.size w7 w8→Calls Tryz.prog 189 #[.slice (some ⟨w7.heap.size,0,none⟩) 3 3] w8 fun e w'=> ∃v,e= .returned v∧w'.ownsRow w8.heap.size 233 9 v (d++es++rs.filter p3).length (flat9 (d++es++rs.filter p3))∧Below w8.heap.size w8 w'):=hide fun w8 h8 k8=>by
     have r2:=own_below hr2'.out k8
     rw[←hes]at r2
     rw[←hes]at h8
     have r1:=own_below hd7.out k8
     have r3:=own_below hr37.out k8
     refine concat_n (s0:=w3.heap.size) r1 ?_ r3 h8 o_m o_m o_m
     exact r2
    have hmem:Hid (∀m∈d++es++rs.filter p3,m∈rs):=hide fun m hm=>by
     rcases List.mem_append.1 hm with hm|hm
     ·rcases List.mem_append.1 hm with hm|hm
      ·exact(hdm.out m hm).1
      exact(List.mem_filter.1 (hq.out.mem_iff.1 hm)).1
     exact(List.mem_filter.1 hm).1
    have hlen:(d++es++rs.filter p3).length≤6006:=by rw[List.length_append,List.length_append];omega
    have hNC7:Hid (∀w',Below w7.heap.size w7 w'→∀m∈d++es++rs.filter p3,NC (fun _=>True) w' m.x m.n 2097152∧I64 m.id):=hide fun w' k m hm=>by
     have hm':=hmem.out m hm
     refine⟨NC.below (hNC3.out m hm') (grow_step k k7.out),?_⟩
     have hok:=hMb.out.ok m.id ((hMb.out.m m.id).2 ⟨m,hm',rfl⟩)
     have h1:=hok.1
     have h2:=hok.2
     unfold I64
     omega
    have hnd:Hid (∀all:List Int,(∀x,x∈all↔x∈(d++es++rs.filter p3).map Mr.id)→∀x,x∈((d++es++rs.filter p3).filter (ndd dual all)).map Mr.id↔Need s.L sg dual (Mem s.L kd idle ids) x):=hide fun all ha x=>need_iff hV hsg hMb.out hpm.out hlf.out hq.out ha x
    have hw7:=hide hL7.out
    clear hLc hpm hlf hq hd7 hr2' hr37 hdm hMb hNC3 k7 hL7 k3 k2 hmem
    generalize d++es++rs.filter p3=Ls at*
    go_wp2_with fail
    refine wp_region_held_drew (S:=fun w'=>w'.cell? ⟨w.heap.size,0,none⟩=some (.int .i64 kd)∧w'.cell? ⟨w.heap.size,1,none⟩=some (.int .i64 dual)∧w'.cell? ⟨w.heap.size,2,none⟩=some (.int .i64 idle)∧w'.cell? ⟨w.heap.size,3,none⟩=some (.int .i64 rul)∧w'.cell? ⟨w.heap.size,4,none⟩=some (.func (.func K) #[] #[])) k_f (hS.out _ (below_drew2 (Below.refl _ _))) (fun hHeld=> ?_)
    show wpAnyH _ _ _ _ _ 15 _ _ _
    refine tkz 0 49 ?_
    (try simp only[pz])
    refine tkz 1 50 ?_
    (try simp only[pz])
    refine tkz 2 51 ?_
    (try simp only[pz])
    refine tkz 3 52 ?_
    (try simp only[pz])
    refine tkz 4 53 ?_
    (try simp only[pz])
    refine tkz 5 54 ?_
    (try simp only[pz])
    refine tkz 6 55 ?_
    (try simp only[pz])
    refine ryz 7 (some 56) (fun K' hK=> ?_) AllReadyH.nil
    clear hHeld
    rw[if_pos k_f]
    go_simp
    refine hK.out _ _ ?_ ?_
    ·(try dsimp only);exact hS.out _ (below_alloc' (below_drew2 (Below.refl _ _)) _)
    clear hK;intro hHeld
    (try simp only[pz])
    generalize (w7.alloc (.cells #[.slice av1' d.length cv1',.slice av2 (rs.filter p2).length cv2,.slice av3 (rs.filter p3).length cv3] 228)).drew=w8 at*
    refine ryz 8 (some 57) (fun K' hK=> ?_) AllReadyH.nil
    clear hHeld
    rw[if_pos k_f]
    go_simp
    refine Calls.mono (hcon.out w8 hb8.out k8.out) ?_
    rintro e w9 ⟨v9,rfl,r9,k9⟩
    replace k9:=hide (grow_step k9 k8.out)
    clear hcon hb8 k8
    obtain⟨a9,c9,rfl⟩:=row9_form r9
    have hneed:=needed_n (kd:=kd) (dual:=dual) (idle:=idle) (rul:=rul) (K:=K) r9 o_m (hNC7.out w9 k9.out)
    simp only[lwV]at hneed
    replace hneed:=hide hneed
    clear r9 hNC7
    (try go_wp2_with fail)
    refine hK.out _ _ ?_ ?_
    ·(try dsimp only);exact hS.out _ k9.out
    clear hK;intro hHeld
    (try simp only[pz])
    refine ryz 9 (some 58) (fun K' hK=> ?_) AllReadyH.nil
    clear hHeld
    rw[if_pos k_f]
    go_simp
    refine Calls.mono hneed.out ?_
    rintro e w10 ⟨a10,c10,all,rfl,hI10,hall10,k10⟩
    replace k10:=hide (grow_step k10 k9.out)
    clear hneed k9
    have hneed2:=hide (hnd.out all hall10)
    have hl10:((Ls.filter (ndd dual all)).map Mr.id).length≤6006:=by rw[List.length_map];exact Nat.le_trans (List.length_filter_le _ _) hlen
    generalize (Ls.filter (ndd dual all)).map Mr.id=l at*
    have kw:=grow_step k10.out hw7.out.2
    have hjoin:=hide (join_ao2 (kd:=kd) (kc:=c10) (hG.below kw) hI10 o_m (htab.below kw))
    replace kw:=hide kw
    clear hI10 hall10 hnd
    (try go_wp2_with fail)
    refine hK.out _ _ ?_ ?_
    ·(try dsimp only);exact hS.out _ k10.out
    clear hK;intro hHeld
    (try simp only[pz])
    refine ryz 10 (some 59) (fun K' hK=> ?_) AllReadyH.nil
    clear hHeld
    rw[if_pos k_f]
    go_simp
    refine Calls.mono hjoin.out ?_
    rintro e w11 hAO
    obtain⟨rfl,F',hG',hF',hB'⟩:=hAO
    have hS11:Hid (w11.cell? ⟨w.heap.size,0,none⟩=some (.int .i64 kd)∧w11.cell? ⟨w.heap.size,1,none⟩=some (.int .i64 dual)∧w11.cell? ⟨w.heap.size,2,none⟩=some (.int .i64 idle)∧w11.cell? ⟨w.heap.size,3,none⟩=some (.int .i64 rul)∧w11.cell? ⟨w.heap.size,4,none⟩=some (.func (.func K) #[] #[])):=hide (by
     have hpm2:=hG.mb.lt
     have h1:LwB w11 w.heap.size kd dual idle rul K:=(hB'.block _ (hw7.out.1.below k10.out).lt (fun e=>e.elim (fun e=>by omega) fun e=>by have:=hG.fl _ e;omega)).trans (hw7.out.1.below k10.out)
     exact⟨h1.c0,h1.c1,h1.c2,h1.c3,h1.c4⟩)
    have hfin:Hid (SJ w w11 (.returned (.tuple #[.int .i64 (actJ nn kk s kd l).2.1,.int .i64 (actJ nn kk s kd l).2.2])) pa pm nn kk F s kd dual idle rul sg ids):=hide ⟨actJ nn kk s kd l,.inr ⟨hall,.inr ⟨fun h=>h.elim hnr.out fun h=>h.elim hnc.out hno.out,l,hneed2.out,rfl⟩⟩,ao2_back kw.out ⟨rfl,F',hG',hF',hB'⟩⟩
    clear hjoin hneed2 hG' hF' hB' hS k10 hw7 kw
    (try go_wp2_with fail)
    refine hK.out _ _ ?_ ?_
    ·(try dsimp only);exact hS11.out
    clear hK;intro hHeld
    (try simp only[pz])
    refine tkz 11 60 ?_
    (try simp only[pz])
    refine tkz 12 61 ?_
    (try simp only[pz])
    refine tkz 13 6 ?_
    (try simp only[pz])
    refine tkz 14 7 ?_
    (try simp only[pz])
    clear hHeld hS11
    refine wpAnyH_done k_f ?_ _
    go_wp2_with fail
    refine bodyPost_ret (results_tmp2 rfl _ _ _) rfl ?_
    exact hfin.out
 have hfin:Hid (SJ w w3 (.returned (.tuple #[.int .i64 rul,.int .i64 0])) pa pm nn kk F s kd dual idle rul sg ids):=hide (by
  obtain⟨m,hm1,hm2⟩:=List.any_eq_true.1 hany
  refine⟨(s,rul,0),.inr ⟨hall,.inl ⟨.inl ((hMb.out.m rul).2 ⟨m,hm1,by simpa using hm2⟩),rfl⟩⟩,ao2_now hG (hLc.out w3 (grow_step k3.out k2.out)).2 rul 0⟩)
 have hu3:=(hLc.out w3 (grow_step k3.out k2.out)).1.c3
 clear hany hNC hL2 k2 hrow k3 ul0 ul1 ul2 ul3 ul4 hlt2 hLc hMb
 go_wp2_with fail
 refine bodyPost_ret (results_tmp2 rfl _ _ _) rfl ?_
 exact hfin.out
end Nt
namespace Nt

variable {w w0:World}{pa pm:Nat}{nn kk:Int}{s:St}{F:Nat→Prop}
theorem and9_n {kc:Nat}{ka:Option Addr}{ids:List Int}(hG:AG w pa pm nn kk s F)(hV:Gv kk s.L)(h0:0≤kk)(hkk:kk≤2097152)(hI:IL w ka ids.length ids)(hil:ids.length≤100000)(htab:Tab w):
  Calls Tryz.prog 119 #[.pointer (some ⟨pa,0,none⟩),.slice ka ids.length kc] w fun e w'=>SJ w w' e pa pm nn kk F s 5 6 1 0 1 ids:=by
 have hj:=join9_n (kc:=kc) (K:=133) (.inl ⟨rfl,rfl,rfl,rfl,rfl⟩) (.inl ⟨rfl,rfl⟩) hG hV h0 hkk hI hil htab
 simp only[lwV]at hj
 replace hj:=hide hj
 clear hG hV hI htab
 go_enter Tryz.func119,Tryz.ntmps119
 go_wp2_with fail
 refine hj.out.mono ?_
 rintro e w1 ⟨r,h1,rfl,h2⟩
 clear hj
 go_wp2_with fail
 refine bodyPost_ret (results_tmp2 rfl _ _ _) rfl ?_
 exact⟨r,h1,rfl,h2⟩
theorem or9_n {kc:Nat}{ka:Option Addr}{ids:List Int}(hG:AG w pa pm nn kk s F)(hV:Gv kk s.L)(h0:0≤kk)(hkk:kk≤2097152)(hI:IL w ka ids.length ids)(hil:ids.length≤100000)(htab:Tab w):
  Calls Tryz.prog 120 #[.pointer (some ⟨pa,0,none⟩),.slice ka ids.length kc] w fun e w'=>SJ w w' e pa pm nn kk F s 6 5 0 1 (-1) ids:=by
 have hj:=join9_n (kc:=kc) (K:=149) (.inr ⟨rfl,rfl,rfl,rfl,rfl⟩) (.inr ⟨rfl,rfl⟩) hG hV h0 hkk hI hil htab
 simp only[lwV]at hj
 replace hj:=hide hj
 clear hG hV hI htab
 go_enter Tryz.func120,Tryz.ntmps120
 go_wp2_with fail
 refine hj.out.mono ?_
 rintro e w1 ⟨r,h1,rfl,h2⟩
 clear hj
 go_wp2_with fail
 refine bodyPost_ret (results_tmp2 rfl _ _ _) rfl ?_
 exact⟨r,h1,rfl,h2⟩
structure EA (w0 w:World) (pa pm:Nat) (nn kk:Int) (s:St) (F:Nat→Prop):Prop where
 g:AG w pa pm nn kk s F
 v:Gv kk s.L
 f: ∀b,F b→w0.heap.size≤b
 p:w0.heap.size≤pm
 k:Below w0.heap.size w0 w
 t:Tab w0
 k0:0≤kk
 k8:kk≤1000000
theorem EA.below {w':World}(h:EA w0 w pa pm nn kk s F)(k:Below w.heap.size w w'):EA w0 w' pa pm nn kk s F:=
 {h with g:=h.g.below k,k:=grow_step k h.k}
theorem EA.tab (h:EA w0 w pa pm nn kk s F):Tab w:=h.t.below h.k
theorem EA.next {w':World}{e:Ending}{r:St × Int × Int}(h:EA w0 w pa pm nn kk s F)(ha:AO2 w w' e pa pm nn kk F r)(hv:Gv kk r.1.L): ∃F',EA w0 w' pa pm nn kk r.1 F'∧(∀b,F' b→F b∨w.heap.size≤b):=by
 obtain⟨_,F',h1,h2,h3⟩:=ha
 refine⟨F',⟨h1,hv,fun b hb=>(h2 b hb).elim (h.f b) fun h4=>Nat.le_trans h.k.size h4,h.p,?_,h.t,h.k0,h.k8⟩,h2⟩
 exact h.k.trans (h3.below (fun b hb=>hb.elim (fun e=>e▸h.p) (h.f b)) h.k.size)
end Nt
namespace Nt

theorem nodup_len {N:Nat}: ∀(l:List Int),l.Nodup→(∀x∈l,0≤x∧x<(N:Int))→l.length+pot [] l N=N
 | [],_,_=>by rw[pot_none];simp
 |x::l,h,hr=>by
  have h1:=List.nodup_cons.1 h
  have ih:=nodup_len l h1.2 fun y hy=>hr y (List.mem_cons_of_mem _ hy)
  have hx:=hr x List.mem_cons_self
  have:=pot_one l x hx.1 h1.1 N hx.2
  rw[List.length_cons]
  omega
def Mono (kk:Int)(J:List Nd→Int→Int→Prop):Prop:=∀L L' i j,Gv kk L→Gv kk L'→(∃t,L'=L++t)→okI L i→okI L j→J L i j→J L' i j
end Nt
namespace Nt

end Nt
end Go.Proofs.YtbgpddlcfiiiaaaGreatDoor
