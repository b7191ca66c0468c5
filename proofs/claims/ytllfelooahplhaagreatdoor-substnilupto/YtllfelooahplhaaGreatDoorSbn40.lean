/-
 Several texts in one: JV,JW,JX,JY,U3,U4,JZ,U5.
-/
import Derived.Test.YtllfelooahplhaaGreatDoorSbnT
import Derived.Test.YtllfelooahplhaaGreatDoorSbn39
import Derived.Lib.AppendZerosOnto
import Derived.Test.YtllfelooahplhaaGreatDoorSbn36
set_option maxRecDepth 100000
set_option maxHeartbeats 6400000
namespace Go.Proofs.YtllfelooahplhaaGreatDoor
open Go.RowKit Go.Sort Go.Shelf
open Tm At
namespace Nt

theorem app9s {w:World}{ops:Array Oper}{rest:List Oper}{o:Oper}{a:Act}{Q:Exit→Act→World→Prop}(hgd:o.guard=none)(s x:Operand)(ho:o.op= .call {callee:=.builtin .append,args:=#[s,x],argTypes:=#[150,150]})(base:Nat)(v:Value)(n:Nat)(rs:List Mr)(hs:a.eval s=v)(hown:w.ownsRow base 155 9 v n (flat9 rs))
  (v2:Value)(b2 m:Nat)(ls:List Mr)(hx:a.eval x=v2)(hc:w.ownsRow b2 155 9 v2 m (flat9 ls))(h63:n+m≤1048576)(hbase:base≤w.heap.size)
  (h: ∀v' w',w'.ownsRow base 155 9 v' (n+m) (flat9 (rs++ls))→w.grownBy w' v.ownBlock→wpList Tryz.prog ops Q rest (a.put o.dst v') w'):wpList Tryz.prog ops Q (o::rest) a w:=by
 obtain⟨i0,hi,hz0,hz1,hz2⟩:=info_parts info9
 have e:flat9 (rs++ls)=flat9 rs++flat9 ls:=by simp[flat9]
 rcases hc.2 with⟨rfl,rfl⟩|⟨g,cap,cur,rfl,e1,e2,e3,e4,e5,e6⟩
 ·have h0:ls= []:=List.eq_nil_of_length_eq_zero (by have:=hc.1;rw[flat9_length]at this;omega)
  subst h0
  refine wpList_append_own_none hgd s x 150 ho base 155 i0 9 Tryz.underlying150 hi v n (flat9 rs) hs hown hx ?_
  exact h v w (by rw[List.append_nil];exact hown) ⟨rfl,rfl,rfl,Nat.le_refl _,fun _ _ _=>rfl⟩
 refine wpList_append_own_at w hgd s x 150 ho base 155 i0 _ 9 136 Tryz.underlying150 hi hz0 hz1 hz2 rfl (by decide) v n (flat9 rs) hs hown ⟨g,0,none⟩ m cap (flat9 ls) hx (by have:=hc.1;omega) (fun j u hu=> ?_) (fun u hu=> ?_) (by unfold maxLen;omega) o_m hbase ?_
 ·exact hc.cells rfl j u hu
 ·obtain⟨y,hy,hu2⟩:=List.mem_flatMap.1 hu
  exact enc9_one y u hu2
 intro v' w' h1 h2 _ _
 exact h v' w' (by rw[e];exact h1) h2
theorem grow9_n {w:World}{n:Nat}(hn:n≤1048000):
  Calls Tryz.prog 162 #[.slice none 0 0,.int .i64 n] w fun e w'=> ∃v,e= .returned v∧w'.ownsRow w.heap.size 155 9 v 0 (flat9 [])∧Below w.heap.size w w':=by
 by_cases h0:n=0
 ·subst h0
  go_enter Tryz.func162,Tryz.ntmps162
  go_wp2_with fail
  go_ret
  exact⟨_,rfl,World.ownsRow_nil _ _ _ _,Below.refl _ _⟩
 obtain⟨i0,hi,hz0,hz1,hz2⟩:=info_parts info9
 have hrz: ∀ty,(Builtin.append_ #[150,3] ty #[.slice none 0 0,.int .i64 n]).run Tryz.prog w=
   .ok (.slice (some ⟨w.heap.size,0,none⟩) n (grownCap w n 0 155)) (w.drew.alloc (.cells (#[]++Builtin.zeroCells zM.cells n++Builtin.zeroCells zM.cells (grownCap w n 0 155-n)) 155)):=fun ty=>by
  have h:=Lib.run_append_grow_zeros w 150 3 ty 155 i0 zM .i64 .i64 Tryz.underlying150 Tryz.underlying3 hi hz0 none 0 0 [] (run_firstCells_none _ _ 0 0 0) n (by omega) (by rw[hz1];decide) (by omega) (by omega) (by rw[hz2];omega) (growslice_fits (by omega) (by rw[hz2];omega))
  rw[Nat.zero_add]at h
  exact h
 have hge:=grownCap_ge w n 0 155
 have hle:=grownCap_le_maxLen w n 0 155 (by unfold maxLen;omega)
 generalize grownCap w n 0 155=G at*
 have hrow:Hid ((w.drew.alloc (.cells (#[]++Builtin.zeroCells zM.cells n++Builtin.zeroCells zM.cells (G-n)) 155)).ownsRow w.heap.size 155 9 (.slice (some ⟨w.heap.size,0,none⟩) 0 G) 0 (flat9 [])):=hide ⟨rfl,.inr ⟨w.heap.size,G,_,rfl,Nat.le_refl _,heap_alloc_new w.drew _,Nat.zero_le _,hle,by simp[Builtin.zeroCells,zM,Value.cells];omega,rfl⟩⟩
 have hbel:Hid (Below w.heap.size w (w.drew.alloc (.cells (#[]++Builtin.zeroCells zM.cells n++Builtin.zeroCells zM.cells (G-n)) 155))):=hide (below_alloc' (below_drew2 (Below.refl _ _)) _)
 generalize w.drew.alloc (.cells (#[]++Builtin.zeroCells zM.cells n++Builtin.zeroCells zM.cells (G-n)) 155)=w2 at*
 have hn0:(0:Int)<(n:Int):=by omega
 go_enter Tryz.func162,Tryz.ntmps162
 clear hi hz0 hz1 hz2
 go_wp2_with(at_builtin;go_loud(refine Lib.wpList_append_run _ rfl _ _ _ _ rfl _ _ rfl rfl _ _ (hrz _) ?_))
 all_goals go_ret
 all_goals exact⟨_,rfl,hrow.out,hbel.out⟩
theorem concat_n {w:World}{s0 b:Nat}{v1 v2 v3:Value}{l1 l2 l3:List Mr}(h1:w.ownsRow s0 155 9 v1 l1.length (flat9 l1))(h2:w.ownsRow s0 155 9 v2 l2.length (flat9 l2))(h3:w.ownsRow s0 155 9 v3 l3.length (flat9 l3))(hb:w.heap[b]? =some (.cells #[v1,v2,v3] 150 (0,0)))(hl1:l1.length≤300000)(hl2:l2.length≤300000)(hl3:l3.length≤300000):
  Calls Tryz.prog 101 #[.slice (some ⟨b,0,none⟩) 3 3] w fun e w'=> ∃v,e= .returned v∧w'.ownsRow w.heap.size 155 9 v (l1++l2++l3).length (flat9 (l1++l2++l3))∧Below w.heap.size w w':=by
 obtain⟨a1,c1,rfl⟩:=row9_form h1
 obtain⟨a2,c2,rfl⟩:=row9_form h2
 obtain⟨a3,c3,rfl⟩:=row9_form h3
 have hbl:=lt_of_block hb
 have u0:w.cell? ⟨b,0,none⟩=some (.slice a1 l1.length c1):=cell_of_row w b 0 _ _ (0,0) hb
 have u1:w.cell? ⟨b,1,none⟩=some (.slice a2 l2.length c2):=cell_of_row w b 1 _ _ (0,0) hb
 have u2:w.cell? ⟨b,2,none⟩=some (.slice a3 l3.length c3):=cell_of_row w b 2 _ _ (0,0) hb
 go_enter Tryz.func101,Tryz.ntmps101
 go_wp2_with fail
 refine wp_loop_rounds 4 ?_
 rw[rounds_succ]
 go_wp2_with fail
 have w2:IntKind.i64.wrap ((l1.length:Int)+(l2.length:Int))=(l1.length:Int)+(l2.length:Int):=by rw[IntKind.wrap_i64];omega
 have n2:(0:Int)≤(l1.length:Int)+(l2.length:Int):=by omega
 have w3:IntKind.i64.wrap ((l1.length:Int)+(l2.length:Int)+(l3.length:Int))=(l1.length:Int)+(l2.length:Int)+(l3.length:Int):=by rw[IntKind.wrap_i64];omega
 have n3:(0:Int)≤(l1.length:Int)+(l2.length:Int)+(l3.length:Int):=by omega
 rw[rounds_succ]
 go_wp2_with fail
 rw[rounds_succ]
 go_wp2_with fail
 rw[rounds_succ]
 have hgrow:=grow9_n (w:=w) (n:=l1.length+l2.length+l3.length) o_m
 rw[Int.natCast_add,Int.natCast_add]at hgrow
 replace hgrow:=hide hgrow
 go_wp2_with(go_at_call 162;refine hgrow.out.mono ?_;rintro e w1 ⟨v,rfl,r1,k1⟩)
 have hU:Hid (∀w',Below w.heap.size w w'→w'.cell? ⟨b,0,none⟩=some (.slice a1 l1.length c1)∧w'.cell? ⟨b,1,none⟩=some (.slice a2 l2.length c2)∧w'.cell? ⟨b,2,none⟩=some (.slice a3 l3.length c3)∧w'.ownsRow s0 155 9 (.slice a1 l1.length c1) l1.length (flat9 l1)∧w'.ownsRow s0 155 9 (.slice a2 l2.length c2) l2.length (flat9 l2)∧w'.ownsRow s0 155 9 (.slice a3 l3.length c3) l3.length (flat9 l3)):=hide fun w' k=>⟨(k.cell (p:=⟨b,0,none⟩) hbl).trans u0,(k.cell (p:=⟨b,1,none⟩) hbl).trans u1,(k.cell (p:=⟨b,2,none⟩) hbl).trans u2,own_below h1 k,own_below h2 k,own_below h3 k⟩
 replace r1:=hide r1
 replace k1:=hide k1
 clear h1 h2 h3 hb u0 u1 u2 hgrow w2 w3 n2 n3
 refine wp_loop_rounds 4 ?_
 have s1:=hU.out w1 k1.out
 have e0:=s1.1
 have q1:=hide s1.2.2.2.1
 have z1:=k1.out.size
 clear s1
 rw[rounds_succ]
 go_wp2_with(at_builtin;refine app9s rfl _ _ rfl w.heap.size v 0 [] rfl r1.out (.slice a1 l1.length c1) s0 l1.length l1 rfl q1.out o_m z1 ?_;intro v2 w2 ho hg;have k2:=hide (k1.out.grown hg z1 fun b hb=>(r1.out.lt b hb).1);have r2:=hide ho;clear ho hg r1 q1 k1 e0)
 rw[List.nil_append,Nat.zero_add]at r2
 have s2:=hU.out w2 k2.out
 have e1:=s2.2.1
 have q2:=hide s2.2.2.2.2.1
 have z2:=k2.out.size
 clear s2
 rw[rounds_succ]
 go_wp2_with(at_builtin;refine app9s rfl _ _ rfl w.heap.size v2 l1.length l1 rfl r2.out (.slice a2 l2.length c2) s0 l2.length l2 rfl q2.out o_m z2 ?_;intro v3 w3 ho hg;have k3:=hide (k2.out.grown hg z2 fun b hb=>(r2.out.lt b hb).1);have r3:=hide ho;clear ho hg r2 q2 k2 e1)
 have s3:=hU.out w3 k3.out
 have e2:=s3.2.2.1
 have q3:=hide s3.2.2.2.2.2
 have z3:=k3.out.size
 clear s3
 rw[rounds_succ]
 go_wp2_with(at_builtin;refine app9s rfl _ _ rfl w.heap.size v3 (l1.length+l2.length) (l1++l2) rfl r3.out (.slice a3 l3.length c3) s0 l3.length l3 rfl q3.out o_m z3 ?_;intro v4 w4 ho hg;have k4:=hide (k3.out.grown hg z3 fun b hb=>(r3.out.lt b hb).1);have r4:=hide ho;clear ho hg r3 q3 k3 e2 hU)
 rw[rounds_succ]
 go_wp2_with fail
 go_ret
 exact⟨v4,rfl,by rw[List.length_append,List.length_append];exact r4.out,k4.out⟩
end Nt
namespace Nt

theorem ao2_back {w w1 w':World}{e:Ending}{pa pm:Nat}{nn kk:Int}{F:Nat→Prop}{r:St × Int × Int}(k:Below w.heap.size w w1)(h:AO2 w1 w' e pa pm nn kk F r):AO2 w w' e pa pm nn kk F r:=by
 obtain⟨h1,F',h2,h3,h4⟩:=h
 exact⟨h1,F',h2,fun b hb=>(h3 b hb).imp id fun h=>Nat.le_trans k.size h,ButF.trans (butF_below k) h4 fun _ _ h=>h⟩
def SJ (w w':World)(e:Ending)(pa pm:Nat)(nn kk:Int)(F:Nat→Prop)(s:St)(kd dual idle rul sg:Int)(ids:List Int):Prop:=
 ∃r,SimpR nn kk s kd dual idle rul sg ids r∧AO2 w w' e pa pm nn kk F r
theorem lie_of {kk:Int}{L:List Nd}{M:Int→Prop}{rs ls:List Mr}{w0 w:World}{s0:Nat}(hV:Gv kk L)(hb:Mb9 L M rs)(hN: ∀m∈rs,NC (fun _=>True) w0 m.x m.n 2097152)(hk:Below w0.heap.size w0 w)(hs:w0.heap.size≤s0)(hl: ∀m∈ls,m∈rs∧(m.n.kind=2∨m.n.kind=3∨m.n.kind=4)):Lie w0 w s0 ls:=
 ⟨fun m hm=>⟨hN m (hl m hm).1,by
  have h:=hl m hm
  have hn:=hb.n m h.1
  rw[hn]
  exact(less_ps hV (hb.ok _ ((hb.m _).2 ⟨m,h.1,rfl⟩)) (by rw[←hn];exact h.2)).1⟩,hk,hs⟩
theorem join9_n {w:World}{pa pm:Nat}{nn kk:Int}{s:St}{F:Nat→Prop}{kd dual idle rul sg:Int}{K kc:Nat}{ka:Option Addr}{ids:List Int}(hlw:Law5 kd dual idle rul sg)(hK:LwK K sg)(hG:AG w pa pm nn kk s F)(hV:Gv kk s.L)(h0:0≤kk)(hkk:kk≤2097152)(hI:IL w ka ids.length ids)(hil:ids.length≤100000)(htab:Tab w):
  Calls Tryz.prog 50 #[.agg (lwV kd dual idle rul K),.pointer (some ⟨pa,0,none⟩),.slice ka ids.length kc] w fun e w'=>SJ w w' e pa pm nn kk F s kd dual idle rul sg ids:=by
 have hkd2:kd=5∨kd=6:=by unfold Law5 at hlw;omega
 have hsg:sg=1∨sg= -1:=by unfold Law5 at hlw;omega
 have hll:s.L.length≤2002:=by have h1:=hG.ln;have h2:=hG.cn;have h3:=hG.n2;omega
 have b1:=below_alloc w (.cells #[.int .i64 kd,.int .i64 dual,.int .i64 idle,.int .i64 rul,.func (.func K) #[] #[]] 94)
 have hL:LwB (w.alloc (.cells #[.int .i64 kd,.int .i64 dual,.int .i64 idle,.int .i64 rul,.func (.func K) #[] #[]] 94)) w.heap.size kd dual idle rul K:=heap_alloc_new w _
 have hspread:=spread_n (w:=w.alloc (.cells #[.int .i64 kd,.int .i64 dual,.int .i64 idle,.int .i64 rul,.func (.func K) #[] #[]] 94)) (dual:=dual) (idle:=idle) (rul:=rul) (K:=K) (kc:=kc) hkd2 (hG.below b1) hV h0 hkk (hI.below b1) hil
 simp only[lwV]at hspread ⊢
 replace hspread:=hide hspread
 have hLc:Hid (∀w',Below (w.alloc (.cells #[.int .i64 kd,.int .i64 dual,.int .i64 idle,.int .i64 rul,.func (.func K) #[] #[]] 94)).heap.size (w.alloc (.cells #[.int .i64 kd,.int .i64 dual,.int .i64 idle,.int .i64 rul,.func (.func K) #[] #[]] 94)) w'→LwB w' w.heap.size kd dual idle rul K∧Below w.heap.size w w'):=hide fun w' k=>⟨hL.below k,grow_step k b1⟩
 go_enter Tryz.func50,Tryz.ntmps50
 clear hL b1
 go_wp2_with fail
 refine hspread.out.mono ?_
 rintro e w2 ⟨k2,hcs⟩
 clear hspread
 have hL2:=hLc.out w2 k2
 rcases hcs with⟨hbad,rfl⟩|⟨hall,v,rs,rfl,hrow,hMb,hrl,hNC⟩
 ·have hfin:Hid (SJ w w2 (.returned (.tuple #[.int .i64 0,.int .i64 80])) pa pm nn kk F s kd dual idle rul sg ids):=hide ⟨(s,0,80),.inl ⟨hbad,rfl⟩,ao2_now hG hL2.2 0 80⟩
  clear hLc hL2 k2 hbad hI htab
  go_wp2_with fail
  refine bodyPost_ret (results_tmp2 rfl _ _ _) rfl ?_
  exact hfin.out
 have ul0:=hL2.1.c0
 have ul1:=hL2.1.c1
 have ul2:=hL2.1.c2
 have ul3:=hL2.1.c3
 have ul4:=hL2.1.c4
 have hlt2:=hL2.1.lt
 have hcont:=containsM_n (kd:=kd) (dual:=dual) (idle:=idle) (rul:=rul) (K:=K) hrow rfl o_m
 simp only[lwV]at hcont
 replace hcont:=hide hcont
 obtain⟨av,cv,rfl⟩:=row9_form hrow
 replace hrow:=hide hrow
 replace hMb:=hide hMb
 replace hNC:=hide hNC
 replace hL2:=hide hL2
 replace k2:=hide k2
 go_wp2_with fail
 refine hcont.out.mono ?_
 rintro e w3 ⟨rfl,k3⟩
 replace k3:=hide k3
 clear hcont
 cases hany:rs.any fun m=>m.id==rul
 ·have hpart:=hide (parted_n (own_below hrow.out k3.out) rfl o_m fun m hm=>(hNC.out m hm).kd)
  have hNC3:Hid (∀m∈rs,NC (fun _=>True) w3 m.x m.n 2097152):=hide fun m hm=>NC.below (hNC.out m hm) k3.out
  have hL3:=hide (hLc.out w3 (grow_step k3.out k2.out))
  have hnr:Hid (¬Mem s.L kd idle ids rul):=hide fun hm=>by
   obtain⟨m,hm1,hm2⟩:=(hMb.out.m rul).1 hm
   have h9:=List.any_eq_false.1 hany m hm1
   simp[hm2]at h9
  have ul0:=hL3.out.1.c0
  have ul1:=hL3.out.1.c1
  have ul2:=hL3.out.1.c2
  have ul3:=hL3.out.1.c3
  have ul4:=hL3.out.1.c4
  have hlt3:=hL3.out.1.lt
  clear hany hNC hL2 hrow hlt2
  go_wp2_with fail
  refine hpart.out.mono ?_
  rintro e w4 ⟨v1,v2,v3,rfl,hR,k4⟩
  clear hpart ul0 ul1 ul2 ul3 ul4
  have p1m: ∀m,m∈rs.filter p1↔m∈rs∧m.n.kind=2:=fun m=>by rw[List.mem_filter];unfold p1;rw[beq_iff_eq]
  have p2m: ∀m,m∈rs.filter p2↔m∈rs∧(m.n.kind=3∨m.n.kind=4):=fun m=>by rw[List.mem_filter];unfold p2;rw[Bool.or_eq_true,beq_iff_eq,beq_iff_eq]
  have f1l:=List.length_filter_le p1 rs
  have f2l:=List.length_filter_le p2 rs
  have f3l:=List.length_filter_le p3 rs
  have hli1:=lie_of (s0:=w3.heap.size) hV hMb.out hNC3.out k4 (Nat.le_refl _) (ls:=rs.filter p1) fun m hm=>⟨((p1m m).1 hm).1,.inl ((p1m m).1 hm).2⟩
  have hstay:=staying_n (kd:=kd) (dual:=dual) (idle:=idle) (rul:=rul) hK hR.r1 o_m hli1
  simp only[lwV]at hstay
  replace hstay:=hide hstay
  have hL4:=hide (hLc.out w4 (grow_step k4 (grow_step k3.out k2.out)))
  have ul0:=hL4.out.1.c0
  have ul1:=hL4.out.1.c1
  have ul2:=hL4.out.1.c2
  have ul3:=hL4.out.1.c3
  have ul4:=hL4.out.1.c4
  have hlt4:=hL4.out.1.lt
  obtain⟨av1,cv1,rfl⟩:=row9_form hR.r1
  obtain⟨av2,cv2,rfl⟩:=row9_form hR.r2
  obtain⟨av3,cv3,rfl⟩:=row9_form hR.r3
  replace hR:=hide hR
  replace k4:=hide k4
  replace p1m:=hide p1m
  replace p2m:=hide p2m
  clear hli1 hL3
  go_wp2_with fail
  refine hstay.out.mono ?_
  rintro e w5 ⟨v1',ls,d,rfl,hpm,hlf,hd,hob,g5⟩
  clear hstay ul0 ul1 ul2 ul3 ul4
  have k5:Below w3.heap.size w3 w5:=k4.out.grown g5 k4.out.size fun b hb=>(hR.out.r1.lt b hb).1
  have hr2:=hR.out.r2.kept g5 hR.out.a12.ne
  have hr3:=hR.out.r3.kept g5 hR.out.a13.ne
  have ha12:Ap v1' (.slice av2 (rs.filter p2).length cv2):=fun b hb=>hR.out.a12 b (hob▸hb)
  have ha13:Ap v1' (.slice av3 (rs.filter p3).length cv3):=fun b hb=>hR.out.a13 b (hob▸hb)
  have ha23:=hR.out.a23
  have hdl:d.length≤rs.length:=Nat.le_trans hlf.sub.length_le (by rw[hpm.length_eq];exact f1l)
  have hdm: ∀m∈d,m∈rs∧m.n.kind=2:=fun m hm=>(p1m.out m).1 (hpm.mem_iff.1 (hlf.sub.mem hm))
  have hli5:=lie_of (s0:=w3.heap.size) hV hMb.out hNC3.out k5 (Nat.le_refl _) (ls:=d) fun m hm=>⟨(hdm m hm).1,.inl (hdm m hm).2⟩
  have hcl:=clash_n (kd:=kd) (dual:=dual) (idle:=idle) (rul:=rul) hK hd o_m hli5
  rw[show(fun(e:Ending) (w':World)=> ∃b,e= .returned (.bool b)∧(b=true↔HP (fun x y=>ordL (lnP x.n.ps) (lnP y.n.ps)) (fun x y=>decide (cmpI (sg*(x.n.k+y.n.k)) (sg*1)≤0)) d 0)∧Below w5.heap.size w5 w')=fun e w'=> ∃b,e= .returned (.bool b)∧(b=true↔Clash s.L sg (Mem s.L kd idle ids))∧Below w5.heap.size w5 w' by simp only[clash_iff hV hsg hMb.out hpm hlf]]at hcl
  simp only[lwV]at hcl
  replace hcl:=hide hcl
  have hL5:=hide (hLc.out w5 (grow_step k5 (grow_step k3.out k2.out)))
  have ul0:=hL5.out.1.c0
  have ul1:=hL5.out.1.c1
  have ul2:=hL5.out.1.c2
  have ul3:=hL5.out.1.c3
  have ul4:=hL5.out.1.c4
  have hlt5:=hL5.out.1.lt
  obtain⟨av1',cv1',rfl⟩:=row9_form hd
  replace hpm:=hide hpm
  replace hlf:=hide hlf
  replace hd:=hide hd
  replace hr2:=hide hr2
  replace hr3:=hide hr3
  replace ha12:=hide ha12
  replace ha13:=hide ha13
  replace ha23:=hide ha23
  replace hdm:=hide hdm
  replace k5:=hide k5
  clear hob g5 hR hL4 hli5 hlt4 k4
  go_wp2_with fail
  refine hcl.out.mono ?_
  rintro e w6 ⟨b1,rfl,hb1,k6⟩
  replace k6:=hide k6
  clear hcl ul0 ul1 ul2 ul3 ul4
  have k36:=hide (grow_step k6.out k5.out)
  have hL6:=hide (hLc.out w6 (grow_step k36.out (grow_step k3.out k2.out)))
  have ul0:=hL6.out.1.c0
  have ul1:=hL6.out.1.c1
  have ul2:=hL6.out.1.c2
  have ul3:=hL6.out.1.c3
  have ul4:=hL6.out.1.c4
  have hlt6:=hL6.out.1.lt
  cases b1 with
  |true=>
   have hfin:Hid (SJ w w6 (.returned (.tuple #[.int .i64 rul,.int .i64 0])) pa pm nn kk F s kd dual idle rul sg ids):=hide ⟨(s,rul,0),.inr ⟨hall,.inl ⟨.inr (.inl (hb1.1 rfl)),rfl⟩⟩,ao2_now hG hL6.out.2 rul 0⟩
   clear hb1 hr2 hr3 hd hL5 hL6 hMb hNC3 hLc hpm hlf hdm ha12 ha13 ha23 k5 k36 k6 k3 k2 hnr
   go_wp2_with fail
   refine bodyPost_ret (results_tmp2 rfl _ _ _) rfl ?_
   exact hfin.out
  |false=>
   have hnc:Hid (¬Clash s.L sg (Mem s.L kd idle ids)):=hide fun h=>by cases hb1.2 h
   have hopp:=hide (opposed_n (own_below hr2.out k6.out) o_m (lie_of (s0:=w3.heap.size) hV hMb.out hNC3.out k36.out (Nat.le_refl _) (ls:=rs.filter p2) fun m hm=>⟨((p2m.out m).1 hm).1,.inr ((p2m.out m).1 hm).2⟩))
   clear hb1 hL5
   go_wp2_with fail
   refine hopp.out.mono ?_
   rintro e w7 ⟨b2,es,rfl,hq,hsort,hb2,hr2',g7⟩
   rw[oppos_iff hV hMb.out hq hsort]at hb2
   have k7:Below w3.heap.size w3 w7:=k36.out.grown g7 k36.out.size fun b hb=>(hr2.out.lt b hb).1
   have hd7:=hide ((own_below hd.out k6.out).kept g7 ha12.out.symm.ne)
   have hr37:=hide ((own_below hr3.out k6.out).kept g7 ha23.out.ne)
   have hL7:=hide (hLc.out w7 (grow_step k7 (grow_step k3.out k2.out)))
   clear hopp ul0 ul1 ul2 ul3 ul4 g7 hsort hd hr2 hr3 ha12 ha13 ha23 hL6 k6 k36 k5 hlt6 hlt5
   have ul3:=hL7.out.1.c3
   have hlt7:=hL7.out.1.lt
   cases b2 with
   |true=>
    have hfin:Hid (SJ w w7 (.returned (.tuple #[.int .i64 rul,.int .i64 0])) pa pm nn kk F s kd dual idle rul sg ids):=hide ⟨(s,rul,0),.inr ⟨hall,.inl ⟨.inr (.inr (hb2.1 rfl)),rfl⟩⟩,ao2_now hG hL7.out.2 rul 0⟩
    clear hb2 hr2' hr37 hd7 hL7 hMb hNC3 hLc hpm hlf hdm k3 k2 hnr k7 hq hnc
    go_wp2_with fail
    refine bodyPost_ret (results_tmp2 rfl _ _ _) rfl ?_
    exact hfin.out
   |false=>
    have hno:Hid (¬Oppos s.L (Mem s.L kd idle ids)):=hide fun h=>by cases hb2.2 h
    have hS:Hid (∀w',Below w7.heap.size w7 w'→w'.cell? ⟨w.heap.size,0,none⟩=some (.int .i64 kd)∧w'.cell? ⟨w.heap.size,1,none⟩=some (.int .i64 dual)∧w'.cell? ⟨w.heap.size,2,none⟩=some (.int .i64 idle)∧w'.cell? ⟨w.heap.size,3,none⟩=some (.int .i64 rul)∧w'.cell? ⟨w.heap.size,4,none⟩=some (.func (.func K) #[] #[])):=hide fun w' k=>by
     have h1:=hL7.out.1.below k
     exact⟨h1.c0,h1.c1,h1.c2,h1.c3,h1.c4⟩
    replace hr2':=hide hr2'
    replace hq:=hide hq
    replace k7:=hide k7
    clear hb2
    have hes:es.length=(rs.filter p2).length:=hq.out.length_eq
    have hb8:Hid ((w7.alloc (.cells #[.slice av1' d.length cv1',.slice av2 (rs.filter p2).length cv2,.slice av3 (rs.filter p3).length cv3] 150)).drew.heap[w7.heap.size]? =some (.cells #[.slice av1' d.length cv1',.slice av2 (rs.filter p2).length cv2,.slice av3 (rs.filter p3).length cv3] 150 (0,0))):=hide (heap_alloc_new w7 (.cells #[.slice av1' d.length cv1',.slice av2 (rs.filter p2).length cv2,.slice av3 (rs.filter p3).length cv3] 150))
    have k8:Hid (Below w7.heap.size w7 (w7.alloc (.cells #[.slice av1' d.length cv1',.slice av2 (rs.filter p2).length cv2,.slice av3 (rs.filter p3).length cv3] 150)).drew):=hide (below_drew2 (below_alloc w7 (.cells #[.slice av1' d.length cv1',.slice av2 (rs.filter p2).length cv2,.slice av3 (rs.filter p3).length cv3] 150)))
    have hcon:Hid (∀w8,w8.heap[w7.heap.size]? =some (.cells #[.slice av1' d.length cv1',.slice av2 (rs.filter p2).length cv2,.slice av3 (rs.filter p3).length cv3] 150 (0,0))→Below w7.heap.size w7 w8→Calls Tryz.prog 101 #[.slice (some ⟨w7.heap.size,0,none⟩) 3 3] w8 fun e w'=> ∃v,e= .returned v∧w'.ownsRow w8.heap.size 155 9 v (d++es++rs.filter p3).length (flat9 (d++es++rs.filter p3))∧Below w8.heap.size w8 w'):=hide fun w8 h8 k8=>by
     have r2:=own_below hr2'.out k8
     rw[←hes]at r2
     rw[←hes]at h8
     have r1:=own_below hd7.out k8
     have r3:=own_below hr37.out k8
     refine concat_n (s0:=w3.heap.size) r1 ?_ r3 h8 o_m o_m o_m
     exact r2
    have hmem:Hid (∀m∈d++es++rs.filter p3,m∈rs):=hide fun m hm=>by
     rcases List.mem_append.1 hm with hm|hm
     ·rcases List.mem_append.1 hm with hm|hm
      ·exact(hdm.out m hm).1
      exact(List.mem_filter.1 (hq.out.mem_iff.1 hm)).1
     exact(List.mem_filter.1 hm).1
    have hlen:(d++es++rs.filter p3).length≤6006:=by rw[List.length_append,List.length_append];omega
    have hNC7:Hid (∀w',Below w7.heap.size w7 w'→∀m∈d++es++rs.filter p3,NC (fun _=>True) w' m.x m.n 2097152∧I64 m.id):=hide fun w' k m hm=>by
     have hm':=hmem.out m hm
     refine⟨NC.below (hNC3.out m hm') (grow_step k k7.out),?_⟩
     have hok:=hMb.out.ok m.id ((hMb.out.m m.id).2 ⟨m,hm',rfl⟩)
     have h1:=hok.1
     have h2:=hok.2
     unfold I64
     omega
    have hnd:Hid (∀all:List Int,(∀x,x∈all↔x∈(d++es++rs.filter p3).map Mr.id)→∀x,x∈((d++es++rs.filter p3).filter (ndd dual all)).map Mr.id↔Need s.L sg dual (Mem s.L kd idle ids) x):=hide fun all ha x=>need_iff hV hsg hMb.out hpm.out hlf.out hq.out ha x
    have hw7:=hide hL7.out
    clear hLc hpm hlf hq hd7 hr2' hr37 hdm hMb hNC3 k7 hL7 k3 k2 hmem
    generalize d++es++rs.filter p3=Ls at*
    go_wp2_with fail
    refine wp_region_held_drew (S:=fun w'=>w'.cell? ⟨w.heap.size,0,none⟩=some (.int .i64 kd)∧w'.cell? ⟨w.heap.size,1,none⟩=some (.int .i64 dual)∧w'.cell? ⟨w.heap.size,2,none⟩=some (.int .i64 idle)∧w'.cell? ⟨w.heap.size,3,none⟩=some (.int .i64 rul)∧w'.cell? ⟨w.heap.size,4,none⟩=some (.func (.func K) #[] #[])) k_f (hS.out _ (below_drew2 (Below.refl _ _))) (fun hHeld=> ?_)
    show wpAnyH _ _ _ _ _ 15 _ _ _
    refine tkz 0 49 ?_
    (try simp only[pz])
    refine tkz 1 50 ?_
    (try simp only[pz])
    refine tkz 2 51 ?_
    (try simp only[pz])
    refine tkz 3 52 ?_
    (try simp only[pz])
    refine tkz 4 53 ?_
    (try simp only[pz])
    refine tkz 5 54 ?_
    (try simp only[pz])
    refine tkz 6 55 ?_
    (try simp only[pz])
    refine ryz 7 (some 56) (fun K' hK=> ?_) AllReadyH.nil
    clear hHeld
    rw[if_pos k_f]
    go_simp
    refine hK.out _ _ ?_ ?_
    ·(try dsimp only);exact hS.out _ (below_alloc' (below_drew2 (Below.refl _ _)) _)
    clear hK;intro hHeld
    (try simp only[pz])
    generalize (w7.alloc (.cells #[.slice av1' d.length cv1',.slice av2 (rs.filter p2).length cv2,.slice av3 (rs.filter p3).length cv3] 150)).drew=w8 at*
    refine ryz 8 (some 57) (fun K' hK=> ?_) AllReadyH.nil
    clear hHeld
    rw[if_pos k_f]
    go_simp
    refine Calls.mono (hcon.out w8 hb8.out k8.out) ?_
    rintro e w9 ⟨v9,rfl,r9,k9⟩
    replace k9:=hide (grow_step k9 k8.out)
    clear hcon hb8 k8
    obtain⟨a9,c9,rfl⟩:=row9_form r9
    have hneed:=needed_n (kd:=kd) (dual:=dual) (idle:=idle) (rul:=rul) (K:=K) r9 o_m (hNC7.out w9 k9.out)
    simp only[lwV]at hneed
    replace hneed:=hide hneed
    clear r9 hNC7
    (try go_wp2_with fail)
    refine hK.out _ _ ?_ ?_
    ·(try dsimp only);exact hS.out _ k9.out
    clear hK;intro hHeld
    (try simp only[pz])
    refine ryz 9 (some 58) (fun K' hK=> ?_) AllReadyH.nil
    clear hHeld
    rw[if_pos k_f]
    go_simp
    refine Calls.mono hneed.out ?_
    rintro e w10 ⟨a10,c10,all,rfl,hI10,hall10,k10⟩
    replace k10:=hide (grow_step k10 k9.out)
    clear hneed k9
    have hneed2:=hide (hnd.out all hall10)
    have hl10:((Ls.filter (ndd dual all)).map Mr.id).length≤6006:=by rw[List.length_map];exact Nat.le_trans (List.length_filter_le _ _) hlen
    generalize (Ls.filter (ndd dual all)).map Mr.id=l at*
    have kw:=grow_step k10.out hw7.out.2
    have hjoin:=hide (join_ao2 (kd:=kd) (kc:=c10) (hG.below kw) hI10 o_m (htab.below kw))
    replace kw:=hide kw
    clear hI10 hall10 hnd
    (try go_wp2_with fail)
    refine hK.out _ _ ?_ ?_
    ·(try dsimp only);exact hS.out _ k10.out
    clear hK;intro hHeld
    (try simp only[pz])
    refine ryz 10 (some 59) (fun K' hK=> ?_) AllReadyH.nil
    clear hHeld
    rw[if_pos k_f]
    go_simp
    refine Calls.mono hjoin.out ?_
    rintro e w11 hAO
    obtain⟨rfl,F',hG',hF',hB'⟩:=hAO
    have hS11:Hid (w11.cell? ⟨w.heap.size,0,none⟩=some (.int .i64 kd)∧w11.cell? ⟨w.heap.size,1,none⟩=some (.int .i64 dual)∧w11.cell? ⟨w.heap.size,2,none⟩=some (.int .i64 idle)∧w11.cell? ⟨w.heap.size,3,none⟩=some (.int .i64 rul)∧w11.cell? ⟨w.heap.size,4,none⟩=some (.func (.func K) #[] #[])):=hide (by
     have hpm2:=hG.mb.lt
     have h1:LwB w11 w.heap.size kd dual idle rul K:=(hB'.block _ (hw7.out.1.below k10.out).lt (fun e=>e.elim (fun e=>by omega) fun e=>by have:=hG.fl _ e;omega)).trans (hw7.out.1.below k10.out)
     exact⟨h1.c0,h1.c1,h1.c2,h1.c3,h1.c4⟩)
    have hfin:Hid (SJ w w11 (.returned (.tuple #[.int .i64 (actJ nn kk s kd l).2.1,.int .i64 (actJ nn kk s kd l).2.2])) pa pm nn kk F s kd dual idle rul sg ids):=hide ⟨actJ nn kk s kd l,.inr ⟨hall,.inr ⟨fun h=>h.elim hnr.out fun h=>h.elim hnc.out hno.out,l,hneed2.out,rfl⟩⟩,ao2_back kw.out ⟨rfl,F',hG',hF',hB'⟩⟩
    clear hjoin hneed2 hG' hF' hB' hS k10 hw7 kw
    (try go_wp2_with fail)
    refine hK.out _ _ ?_ ?_
    ·(try dsimp only);exact hS11.out
    clear hK;intro hHeld
    (try simp only[pz])
    refine tkz 11 60 ?_
    (try simp only[pz])
    refine tkz 12 61 ?_
    (try simp only[pz])
    refine tkz 13 6 ?_
    (try simp only[pz])
    refine tkz 14 7 ?_
    (try simp only[pz])
    clear hHeld hS11
    refine wpAnyH_done k_f ?_ _
    go_wp2_with fail
    refine bodyPost_ret (results_tmp2 rfl _ _ _) rfl ?_
    exact hfin.out
 have hfin:Hid (SJ w w3 (.returned (.tuple #[.int .i64 rul,.int .i64 0])) pa pm nn kk F s kd dual idle rul sg ids):=hide (by
  obtain⟨m,hm1,hm2⟩:=List.any_eq_true.1 hany
  refine⟨(s,rul,0),.inr ⟨hall,.inl ⟨.inl ((hMb.out.m rul).2 ⟨m,hm1,by simpa using hm2⟩),rfl⟩⟩,ao2_now hG (hLc.out w3 (grow_step k3.out k2.out)).2 rul 0⟩)
 have hu3:=(hLc.out w3 (grow_step k3.out k2.out)).1.c3
 clear hany hNC hL2 k2 hrow k3 ul0 ul1 ul2 ul3 ul4 hlt2 hLc hMb
 go_wp2_with fail
 refine bodyPost_ret (results_tmp2 rfl _ _ _) rfl ?_
 exact hfin.out
end Nt
namespace Nt

theorem and9_n {w:World}{pa pm:Nat}{nn kk:Int}{s:St}{F:Nat→Prop}{kc:Nat}{ka:Option Addr}{ids:List Int}(hG:AG w pa pm nn kk s F)(hV:Gv kk s.L)(h0:0≤kk)(hkk:kk≤2097152)(hI:IL w ka ids.length ids)(hil:ids.length≤100000)(htab:Tab w):
  Calls Tryz.prog 17 #[.pointer (some ⟨pa,0,none⟩),.slice ka ids.length kc] w fun e w'=>SJ w w' e pa pm nn kk F s 5 6 1 0 1 ids:=by
 have hj:=join9_n (kc:=kc) (K:=49) (.inl ⟨rfl,rfl,rfl,rfl,rfl⟩) (.inl ⟨rfl,rfl⟩) hG hV h0 hkk hI hil htab
 simp only[lwV]at hj
 replace hj:=hide hj
 clear hG hV hI htab
 go_enter Tryz.func17,Tryz.ntmps17
 go_wp2_with fail
 refine hj.out.mono ?_
 rintro e w1 ⟨r,h1,rfl,h2⟩
 clear hj
 go_wp2_with fail
 refine bodyPost_ret (results_tmp2 rfl _ _ _) rfl ?_
 exact⟨r,h1,rfl,h2⟩
theorem or9_n {w:World}{pa pm:Nat}{nn kk:Int}{s:St}{F:Nat→Prop}{kc:Nat}{ka:Option Addr}{ids:List Int}(hG:AG w pa pm nn kk s F)(hV:Gv kk s.L)(h0:0≤kk)(hkk:kk≤2097152)(hI:IL w ka ids.length ids)(hil:ids.length≤100000)(htab:Tab w):
  Calls Tryz.prog 18 #[.pointer (some ⟨pa,0,none⟩),.slice ka ids.length kc] w fun e w'=>SJ w w' e pa pm nn kk F s 6 5 0 1 (-1) ids:=by
 have hj:=join9_n (kc:=kc) (K:=51) (.inr ⟨rfl,rfl,rfl,rfl,rfl⟩) (.inr ⟨rfl,rfl⟩) hG hV h0 hkk hI hil htab
 simp only[lwV]at hj
 replace hj:=hide hj
 clear hG hV hI htab
 go_enter Tryz.func18,Tryz.ntmps18
 go_wp2_with fail
 refine hj.out.mono ?_
 rintro e w1 ⟨r,h1,rfl,h2⟩
 clear hj
 go_wp2_with fail
 refine bodyPost_ret (results_tmp2 rfl _ _ _) rfl ?_
 exact⟨r,h1,rfl,h2⟩
structure EA (w0 w:World) (pa pm:Nat) (nn kk:Int) (s:St) (F:Nat→Prop):Prop where
 g:AG w pa pm nn kk s F
 v:Gv kk s.L
 f: ∀b,F b→w0.heap.size≤b
 p:w0.heap.size≤pm
 k:Below w0.heap.size w0 w
 t:Tab w0
 k0:0≤kk
 k8:kk≤1000000
theorem EA.below {w0 w w':World}{pa pm:Nat}{nn kk:Int}{s:St}{F:Nat→Prop}(h:EA w0 w pa pm nn kk s F)(k:Below w.heap.size w w'):EA w0 w' pa pm nn kk s F:=
 {h with g:=h.g.below k,k:=grow_step k h.k}
theorem EA.tab {w0 w:World}{pa pm:Nat}{nn kk:Int}{s:St}{F:Nat→Prop}(h:EA w0 w pa pm nn kk s F):Tab w:=h.t.below h.k
theorem EA.next {w0 w w':World}{e:Ending}{pa pm:Nat}{nn kk:Int}{s:St}{F:Nat→Prop}{r:St × Int × Int}(h:EA w0 w pa pm nn kk s F)(ha:AO2 w w' e pa pm nn kk F r)(hv:Gv kk r.1.L): ∃F',EA w0 w' pa pm nn kk r.1 F'∧(∀b,F' b→F b∨w.heap.size≤b):=by
 obtain⟨_,F',h1,h2,h3⟩:=ha
 refine⟨F',⟨h1,hv,fun b hb=>(h2 b hb).elim (h.f b) fun h4=>Nat.le_trans h.k.size h4,h.p,?_,h.t,h.k0,h.k8⟩,h2⟩
 exact h.k.trans (h3.below (fun b hb=>hb.elim (fun e=>e▸h.p) (h.f b)) h.k.size)
end Nt
namespace Nt

theorem nodup_len {N:Nat}: ∀(l:List Int),l.Nodup→(∀x∈l,0≤x∧x<(N:Int))→l.length+pot [] l N=N
 | [],_,_=>by rw[pot_none];simp
 |x::l,h,hr=>by
  have h1:=List.nodup_cons.1 h
  have ih:=nodup_len l h1.2 fun y hy=>hr y (List.mem_cons_of_mem _ hy)
  have hx:=hr x List.mem_cons_self
  have:=pot_one l x hx.1 h1.1 N hx.2
  rw[List.length_cons]
  omega
def Mono (kk:Int)(J:List Nd→Int→Int→Prop):Prop:=∀L L' i j,Gv kk L→Gv kk L'→(∃t,L'=L++t)→okI L i→okI L j→J L i j→J L' i j
end Nt
namespace Nt
namespace Sb

def markR :Value→Option (DataW Value × List MemPlace)
 | .agg cs=>match cs.toList with
  | [.bool b]=>some (.lit (.bool b),[])
  |_=>none
 |_=>none
theorem markR_mk (b:Bool):markR (.agg #[.bool b])=some (.lit (.bool b),[]):=rfl
theorem markR_inv {v:Value}{z:DataW Value × List MemPlace}(h:markR v=some z): ∃b,v= .agg #[.bool b]∧z=(.lit (.bool b),[]):=by
 unfold markR at h
 split at h
 ·rename_i cs
  split at h
  ·rename_i b e
   refine⟨b,?_,(Option.some.inj h).symm⟩
   congr 1
   apply Array.ext'
   exact e
  cases h
 cases h
structure Lb where
 pb:Nat
 qa:Nat
 qv:Nat
 ql:Nat
 bm:Nat
def Lb.var (B:Lb)(b:Nat):Prop:=b=B.pb∨b=B.qa∨b=B.qv∨b=B.ql
structure LV (B:Lb) (pa:Nat) (v:Int) (w:World):Prop where
 hp:w.heap[B.pb]? =some (.cells #[.map (some B.bm),.slice none 0 0] 110 (0,0))
 ha:w.heap[B.qa]? =some (.cells #[.pointer (some ⟨pa,0,none⟩)] 26 (0,0))
 hv:w.heap[B.qv]? =some (.cells #[.int .i64 v] 3 (0,0))
 hl:w.heap[B.ql]? =some (.cells #[.func (.func 114) #[] #[.pointer (some ⟨B.pb,0,none⟩),.pointer (some ⟨B.qa,0,none⟩),.pointer (some ⟨B.qv,0,none⟩),.pointer (some ⟨B.ql,0,none⟩)]] 39 (0,0))
theorem LV.move {B:Lb}{pa:Nat}{v:Int}{w w':World}(h:LV B pa v w)(hm: ∀b,B.var b→b<w.heap.size→w'.heap[b]? =w.heap[b]?):LV B pa v w':=
 ⟨(hm _ (.inl rfl) (lt_of_block h.hp)).trans h.hp,(hm _ (.inr (.inl rfl)) (lt_of_block h.ha)).trans h.ha,(hm _ (.inr (.inr (.inl rfl))) (lt_of_block h.hv)).trans h.hv,(hm _ (.inr (.inr (.inr rfl))) (lt_of_block h.hl)).trans h.hl⟩
structure LS (wS:World) (B:Lb) (pa pm:Nat) (kk v:Int) (L:List Nd) (F:Nat→Prop) (w:World) (Vis:List Int) (D:DataW Value):Prop where
 k:Below wS.heap.size wS w
 a:AX wS pa pm L F
 g:Gv kk L
 b:LV B pa v w
 bb: ∀b,B.var b∨b=B.bm→wS.heap.size≤b
 nm: ¬B.var B.bm
 m:w.ownsMap Tryz.prog 3 markR B.bm Vis.length D
 d: ∀x,I64 x→Maps.has D (.int .i64 x)=decide (x∈Vis)
 j: ∀x∈Vis,okI L x∧∃b:Bool,(b=true↔Fv L v x)∧∀z,D.atKey (.int .i64 x) z= .lit (.bool b)
 c: ∀x∈Vis,∀k∈(ndI L x).kids,k∈Vis
 nd:Vis.Nodup
theorem lt_of_map {w:World}{b n:Nat}{D:DataW Value}(h:w.ownsMap Tryz.prog 3 markR b n D):b<w.heap.size:=h.lt
variable {wS w w':World}{B:Lb}{pa pm:Nat}{kk v:Int}{L:List Nd}{F:Nat→Prop}{Vis:List Int}{D:DataW Value}
theorem LS.below (h:LS wS B pa pm kk v L F w Vis D)(k:Below w.heap.size w w'):LS wS B pa pm kk v L F w' Vis D:=
 {h with
  k:=grow_step k h.k
  b:=h.b.move fun b _ hb=>k.block b hb
  m:=h.m.kept (gb_none k) (by simp)}
theorem LS.ax (h:LS wS B pa pm kk v L F w Vis D):AX w pa pm L F:=h.a.move h.k.size fun b hb=>h.k.block b (h.a.fl b hb)
theorem LS.len (h:LS wS B pa pm kk v L F w Vis D):Vis.length≤L.length:=by
 have h4:=nodup_len (N:=L.length) Vis h.nd fun x hx=>(h.j x hx).1
 omega
theorem LS.put {i:Int}{b:Bool}(h:LS wS B pa pm kk v L F w Vis D)(hi:okI L i)(hL:L.length≤1048576)(hb:b=true↔Fv L v i)(hn:i∉Vis)(hk: ∀k∈(ndI L i).kids,k∈Vis)(hm:w'.ownsMap Tryz.prog 3 markR B.bm (Vis.length+1) (D.put (.int .i64 i) (.lit (.bool b))))(hg:w.grownBy w' (some B.bm)):LS wS B pa pm kk v L F w' (i::Vis) (D.put (.int .i64 i) (.lit (.bool b))):=by
 have hI:I64 i:=by have h1:=hi.1;have h2:=hi.2;unfold I64;omega
 have hky:=isKey_i i hI
 refine⟨h.k.grown hg h.k.size fun b hb=>by cases hb;exact h.bb _ (.inr rfl),h.a,h.g,h.b.move fun b hb hl=>hg.block b hl fun e=>h.nm (Option.some.inj e▸hb),h.bb,h.nm,hm,fun x hx=> ?_,fun x hx=> ?_,fun x hx k hk'=> ?_,List.nodup_cons.2 ⟨hn,h.nd⟩⟩
 ·by_cases e:x=i
  ·subst e
   rw[Maps.has_put_same h.m.isMap hky]
   simp
  rw[Maps.has_put_other (fun e2=>e (by injection e2)),h.d x hx]
  simp[e]
 ·rcases List.mem_cons.1 hx with rfl|hx
  ·exact⟨hi,b,hb,fun z=>Maps.atKey_put_same h.m.isMap hky _ _⟩
  obtain⟨g1,y,g2,g3⟩:=h.j x hx
  have e:x≠i:=fun e=>hn (e▸hx)
  exact⟨g1,y,g2,fun z=>by rw[Maps.atKey_put_other (fun e2=>e (by injection e2))];exact g3 z⟩
 rcases List.mem_cons.1 hx with rfl|hx
 ·exact List.mem_cons_of_mem _ (hk k hk')
 exact List.mem_cons_of_mem _ (h.c x hx k hk')
def LkP (wS:World)(B:Lb)(pa pm:Nat)(kk v:Int)(L:List Nd)(F:Nat→Prop)(w:World)(Vis:List Int)(id:Int)(e:Ending)(w':World):Prop:=
 ∃(b:Bool) (Vis':List Int) (D':DataW Value),e= .returned (.bool b)∧(b=true↔Fv L v id)∧LS wS B pa pm kk v L F w' Vis' D'∧(∀x∈Vis,x∈Vis')∧id∈Vis'∧(∀x∈Vis',x∈Vis∨x≤id)∧ButF (fun b=>b=B.bm) w w'
def isP (v:Int)(p:Int × Int):Bool:=p.1==v
theorem isP_any {n:Nd}{v:Int}:n.ps.any (isP v)=true↔ ∃c,(v,c)∈n.ps:=by
 rw[List.any_eq_true]
 constructor
 ·rintro⟨⟨u,c⟩,h1,h2⟩
  obtain rfl:u=v:=by simpa [isP] using h2
  exact⟨c,h1⟩
 rintro⟨c,h⟩
 exact⟨(v,c),h,by simp[isP]⟩
theorem isPart_n {w:World}{qv:Nat}{v u:Int}{s:Bool}{a:Option Addr}{l c:Nat}(hv:w.heap[qv]? =some (.cells #[.int .i64 v] 3 (0,0))):
  Calls Tryz.prog 116 #[.agg #[.int .i64 u,.bool s,.slice a l c],.pointer (some ⟨qv,0,none⟩)] w fun e w'=>e= .returned (.bool (u==v))∧Below w.heap.size w w':=by
 have b0:=below_alloc w (.cells #[.int .i64 u,.bool s,.slice a l c] 134)
 have uv:=cell_of_row w qv 0 _ _ (0,0) hv
 have ul:=lt_of_block hv
 have k0:=hide b0
 go_enter Tryz.func116,Tryz.ntmps116
 go_wp2
 go_ret
 exact⟨rfl,k0.out⟩
end Sb
end Nt
namespace Nt
namespace Sb

structure Bl where
 bs:Nat
 bk:Nat
 ba:Nat
 bc:Nat
 bt:Nat
 bm:Nat
def Bl.var (B:Bl)(b:Nat):Prop:=b=B.bs∨b=B.bk∨b=B.ba∨b=B.bc∨b=B.bt
structure BV (B:Bl) (pa:Nat) (sv tf:Value) (w:World):Prop where
 hs:w.heap[B.bs]? =some (.cells #[sv] 39 (0,0))
 hk:w.heap[B.bk]? =some (.cells #[.map (some B.bm)] 146 (0,0))
 ha:w.heap[B.ba]? =some (.cells #[.pointer (some ⟨pa,0,none⟩)] 26 (0,0))
 hc:w.heap[B.bc]? =some (.cells #[.func (.func 119) #[] #[.pointer (some ⟨B.bs,0,none⟩),.pointer (some ⟨B.bk,0,none⟩),.pointer (some ⟨B.ba,0,none⟩),.pointer (some ⟨B.bc,0,none⟩),.pointer (some ⟨B.bt,0,none⟩)]] 147 (0,0))
 ht:w.heap[B.bt]? =some (.cells #[tf] 64 (0,0))
theorem BV.move {B:Bl}{pa:Nat}{sv tf:Value}{w w':World}(h:BV B pa sv tf w)(hm: ∀b,B.var b→b<w.heap.size→w'.heap[b]? =w.heap[b]?):BV B pa sv tf w':=
 ⟨(hm _ (.inl rfl) (lt_of_block h.hs)).trans h.hs,(hm _ (.inr (.inl rfl)) (lt_of_block h.hk)).trans h.hk,(hm _ (.inr (.inr (.inl rfl))) (lt_of_block h.ha)).trans h.ha,(hm _ (.inr (.inr (.inr (.inl rfl)))) (lt_of_block h.hc)).trans h.hc,(hm _ (.inr (.inr (.inr (.inr rfl)))) (lt_of_block h.ht)).trans h.ht⟩
theorem BV.lt {B:Bl}{pa:Nat}{sv tf:Value}{w:World}(h:BV B pa sv tf w){b:Nat}(hb:B.var b):b<w.heap.size:=by
 rcases hb with rfl|rfl|rfl|rfl|rfl
 ·exact lt_of_block h.hs
 ·exact lt_of_block h.hk
 ·exact lt_of_block h.ha
 ·exact lt_of_block h.hc
 exact lt_of_block h.ht
def Apt (wI:World)(F0:Nat→Prop)(pm bm:Nat)(w:World):Prop:=ButF (fun b=>b=pm∨F0 b∨b=bm) wI w
structure CS (w0 wI:World) (F0:Nat→Prop) (B:Bl) (pa pm:Nat) (sv tf:Value) (nn kk:Int) (L0:List Nd) (J:List Nd→Int→Int→Prop) (w:World) (s:St) (F:Nat→Prop) (Sn:List Int) (D:DataW Value):Prop where
 x:Apt wI F0 pm B.bm w
 f0: ∀b,F b→F0 b∨wI.heap.size≤b
 l0: ∃t,s.L=L0++t
 e:EA w0 w pa pm nn kk s F
 b:BV B pa sv tf w
 m:w.ownsMap Tryz.prog 3 (plainElem Tryz.prog 3) B.bm Sn.length D
 nF: ∀b,B.var b∨b=B.bm→¬F b∧b≠pm
 nm: ¬B.var B.bm
 bl:B.bm<w.heap.size
 b0:w0.heap.size≤B.bm
 d: ∀x,I64 x→Maps.has D (.int .i64 x)=decide (x∈Sn)
 j: ∀x∈Sn,okI s.L x∧∃y,(∀z,D.atKey (.int .i64 x) z= .lit (.int .i64 y))∧okI s.L y∧J s.L x y
 nd:Sn.Nodup
variable {w0 wI w w':World}{F0:Nat→Prop}{B:Bl}{pa pm:Nat}{sv tf:Value}{nn kk:Int}{L0:List Nd}{J:List Nd→Int→Int→Prop}{s:St}{F:Nat→Prop}{Sn:List Int}{D:DataW Value}
theorem CS.below (h:CS w0 wI F0 B pa pm sv tf nn kk L0 J w s F Sn D)(k:Below w.heap.size w w'):CS w0 wI F0 B pa pm sv tf nn kk L0 J w' s F Sn D:=
 {h with
  x:=ButF.trans h.x (butF_below (F:=fun _=>False) k) fun _ _ h=>h.elim
  e:=h.e.below k
  b:=h.b.move fun b _ hb=>k.block b hb
  m:=h.m.kept (gb_none k) (by simp)
  bl:=Nat.lt_of_lt_of_le h.bl k.size}
theorem CS.len (h:CS w0 wI F0 B pa pm sv tf nn kk L0 J w s F Sn D):s.L.length≤2002∧Sn.length≤2002:=by
 have h1:=h.e.g.ln
 have h2:=h.e.g.cn
 have h3:=h.e.g.n2
 have h4:=nodup_len (N:=s.L.length) Sn h.nd fun x hx=>(h.j x hx).1
 omega
theorem CS.butF {G:Nat→Prop}(h:CS w0 wI F0 B pa pm sv tf nn kk L0 J w s F Sn D)(hb:ButF G w w')(hG: ∀b,G b→b<w.heap.size→¬F b∧b≠pm∧¬B.var b∧b≠B.bm∧w0.heap.size≤b)(hGI: ∀b,G b→wI.heap.size≤b):CS w0 wI F0 B pa pm sv tf nn kk L0 J w' s F Sn D:=by
 have hA:AG w' pa pm nn kk s F:=by
  obtain⟨C,nv,bm,X,D',h1,h2,h3⟩:=h.e.g.ar
  refine{h.e.g with ar:=⟨C,nv,bm,X,D',h1.butF hb fun b hb' e=>(hG b e (h.e.g.fl b (h3 b hb'))).1 (h3 b hb'),h2,h3⟩,mb:=?_,fl:=fun b hb'=>Nat.lt_of_lt_of_le (h.e.g.fl b hb') hb.size}
  exact(hb.block _ h.e.g.mb.lt fun e=>(hG _ e h.e.g.mb.lt).2.1 rfl).trans h.e.g.mb
 refine{h with x:=ButF.trans h.x hb (fun b hl hg=>by have:=hGI b hg;omega),e:={h.e with g:=hA,k:=?_},b:=h.b.move fun b hv hl=>hb.block b hl fun e=>(hG b e hl).2.2.1 hv,m:=?_,bl:=Nat.lt_of_lt_of_le h.bl hb.size}
 ·exact h.e.k.trans ⟨hb.os,hb.tape,hb.output,hb.size,fun i hi=>hb.block i (Nat.lt_of_lt_of_le hi h.e.k.size) fun e=>by have:=(hG i e (Nat.lt_of_lt_of_le hi h.e.k.size)).2.2.2.2;omega⟩
 obtain⟨es,clock,hm,hr⟩:=h.m
 exact⟨es,clock,(hb.block _ h.bl fun e=>(hG _ e h.bl).2.2.2.1 rfl).trans hm,hr⟩
theorem CS.next {e:Ending}{r:St × Int × Int}(h:CS w0 wI F0 B pa pm sv tf nn kk L0 J w s F Sn D)(hJ:Mono kk J)(ha:AO2 w w' e pa pm nn kk F r)(hp:Kp kk s r): ∃F',CS w0 wI F0 B pa pm sv tf nn kk L0 J w' r.1 F' Sn D∧(∀b,F' b→F b∨w.heap.size≤b)∧ButF (fun b=>b=pm∨F b∨b=B.bm) w w':=by
 obtain⟨F',h1,h2⟩:=h.e.next ha hp.gv
 obtain⟨_,_,_,_,h3⟩:=ha
 refine⟨F',{h with
  x:=ButF.trans h.x h3 fun b hl hg=>hg.elim .inl fun hf=> .inr (.inl ((h.f0 b hf).resolve_right o_m))
  f0:=fun b hb=>(h2 b hb).elim (h.f0 b) fun hl=> .inr (by have:=h.x.size;omega)
  l0:=by obtain⟨t1,e1⟩:=h.l0;obtain⟨t2,e2⟩:=hp.le;exact⟨t1++t2,by rw[e2,e1,List.append_assoc]⟩
  e:=h1
  b:=h.b.move fun b hb hl=>h3.block b hl fun hf=>hf.elim (fun e=>(h.nF b (.inl hb)).2 e) fun hf=>(h.nF b (.inl hb)).1 hf
  m:=?_
  nF:=fun b hb=>⟨fun hf=>(h2 b hf).elim (h.nF b hb).1 fun hl=> ?_,(h.nF b hb).2⟩
  bl:=Nat.lt_of_lt_of_le h.bl h3.size
  j:=fun x hx=> ?_},h2,h3.mono fun b hb=>hb.imp id .inl⟩
 ·obtain⟨es,clock,hb,hr⟩:=h.m
  exact⟨es,clock,(h3.block _ h.bl fun hf=>hf.elim (h.nF _ (.inr rfl)).2 (h.nF _ (.inr rfl)).1).trans hb,hr⟩
 ·rcases hb with hb|rfl
  ·have:=h.b.lt hb
   omega
  have:=h.bl
  omega
 obtain⟨g1,y,g2,g3,g4⟩:=h.j x hx
 exact⟨hp.okI g1,y,g2,hp.okI g3,hJ _ _ _ _ h.e.v hp.gv hp.le g1 g3 g4⟩
theorem CS.put {i y:Int}(h:CS w0 wI F0 B pa pm sv tf nn kk L0 J w s F Sn D)(hi:okI s.L i)(hy:okI s.L y)(hJ:J s.L i y)(hn:i∉Sn)(hm:w'.ownsMap Tryz.prog 3 (plainElem Tryz.prog 3) B.bm (Sn.length+1) (D.put (.int .i64 i) (.lit (.int .i64 y))))(hg:w.grownBy w' (some B.bm)):CS w0 wI F0 B pa pm sv tf nn kk L0 J w' s F (i::Sn) (D.put (.int .i64 i) (.lit (.int .i64 y))):=by
 have hl:=h.len.1
 have hI:I64 i:=by have h1:=hi.1;have h2:=hi.2;unfold I64;omega
 have hbb:ButF (fun b=>b=B.bm) w w':=⟨hg.os,hg.tape,hg.output,hg.size,fun b hb hn=>hg.block b hb fun e=>hn (Option.some.inj e)⟩
 have hk:=isKey_i i hI
 have hG:AG w' pa pm nn kk s F:=by
  obtain⟨C,nv,bm,X,D',h1,h2,h3⟩:=h.e.g.ar
  refine{h.e.g with ar:=⟨C,nv,bm,X,D',h1.butF hbb fun b hb e=>(h.nF _ (.inr rfl)).1 (e▸h3 b hb),h2,h3⟩,mb:=?_,fl:=fun b hb=>Nat.lt_of_lt_of_le (h.e.g.fl b hb) hg.size}
  exact(hg.block _ h.e.g.mb.lt fun e=>(h.nF _ (.inr rfl)).2 (Option.some.inj e).symm).trans h.e.g.mb
 refine⟨ButF.trans h.x hbb (fun b hl hg=> .inr (.inr hg)),h.f0,h.l0,{h.e with g:=hG,k:=?_},h.b.move fun b hb hl=>hg.block b hl fun e=>h.nm (Option.some.inj e▸hb),hm,h.nF,h.nm,Nat.lt_of_lt_of_le h.bl hg.size,h.b0,fun x hx=> ?_,fun x hx=> ?_,List.nodup_cons.2 ⟨hn,h.nd⟩⟩
 ·exact h.e.k.grown hg h.e.k.size fun b hb=>by cases hb;exact h.b0
 ·by_cases e:x=i
  ·subst e
   rw[Maps.has_put_same h.m.isMap hk]
   simp
  rw[Maps.has_put_other (fun e2=>e (by injection e2)),h.d x hx]
  simp[e]
 rcases List.mem_cons.1 hx with rfl|hx
 ·exact⟨hi,y,fun z=>Maps.atKey_put_same h.m.isMap hk _ _,hy,hJ⟩
 obtain⟨g1,y',g2,g3,g4⟩:=h.j x hx
 have e:x≠i:=fun e=>hn (e▸hx)
 exact⟨g1,y',fun z=>by rw[Maps.atKey_put_other (fun e2=>e (by injection e2))];exact g2 z,g3,g4⟩
end Sb
end Nt
namespace Nt

end Nt
namespace Nt
namespace Sb

structure Mks (w0 wI:World) (F0:Nat→Prop) (B:Bl) (pa pm KS:Nat) (rs cs:Array Value) (tf:Value) (nn kk:Int) (L0:List Nd) (G:Int→Prop) (st:Int→Bool) (J:List Nd→Int→Int→Prop) (FR:St→Int→List Int→St × Int × Int→Prop):Prop where
 sg: ∀args w,(callFunc KS args).run Tryz.prog w= .ok (.enter KS args) w
 sf: ∀w x,Apt wI F0 pm B.bm w→G x→okI L0 x→Calls Tryz.prog KS (rs++ #[.int .i64 x]++cs) w fun e w'=>e= .returned (.bool (st x))∧Below w.heap.size w w'
 gk: ∀x,G x→okI L0 x→st x=false→∀k∈(ndI L0 x).kids,G k
 jst: ∀(s:St) x,(∃t,s.L=L0++t)→Gv kk s.L→G x→okI L0 x→st x=true→J s.L x x
 mo:Mono kk J
 kp: ∀s i ks r,FR s i ks r→Gv kk s.L→okI s.L i→Kp kk s r
 er: ∀s i ks r,FR s i ks r→Gv kk s.L→okI s.L i→(∀k∈ks,okI s.L k)→ks.length=(ndI s.L i).kids.length→r.2.2≠0→r.1.er≠0
 js: ∀s i ks r,FR s i ks r→Gv kk s.L→okI s.L i→Prs (J s.L) (ndI s.L i).kids ks→(∀k∈ks,okI s.L k)→r.2.2=0→J r.1.L i r.2.1
 fn: ∀w s F i x ks ka kc,EA w0 w pa pm nn kk s F→Apt wI F0 pm B.bm w→okI L0 i→G i→st i=false→(∃t,s.L=L0++t)→NC (fun _=>True) w x (ndI s.L i) 1048576→IL w ka ks.length ks→(∀k∈ks,okI s.L k)→ks.length=(ndI s.L i).kids.length→InF (fun b=> ¬F b∧b≠pm) ka ks.length→
  Calls Tryz.prog 120 #[.pointer (some ⟨pa,0,none⟩),.agg (nE x),.slice ka ks.length kc,tf] w fun e w'=> ∃r,FR s i ks r∧AO2 w w' e pa pm nn kk F r
def CoP (w0 wI:World)(F0:Nat→Prop)(B:Bl)(pa pm KS:Nat)(rs cs:Array Value)(tf:Value)(nn kk:Int)(L0:List Nd)(st:Int→Bool)(J:List Nd→Int→Int→Prop)(FR:St→Int→List Int→St × Int × Int→Prop)(w:World)(s:St)(F:Nat→Prop)(Sn:List Int)(id:Int)(e:Ending)(w':World):Prop:=
 ∃r F' Sn' D',e= .returned (.tuple #[.int .i64 r.2.1,.int .i64 r.2.2])∧CS w0 wI F0 B pa pm (.func (.func KS) rs cs) tf nn kk L0 J w' r.1 F' Sn' D'∧Kp kk s r∧(r.2.2=0→J r.1.L id r.2.1)∧(∀x∈Sn',x∈Sn∨x≤id)∧(∀b,F' b→F b∨w.heap.size≤b)∧ButF (fun b=>b=pm∨F b∨b=B.bm) w w'∧(r.2.2≠0→r.1.er≠0)∧((ndI s.L id).kids= []→st id=false→id∉Sn→FR s id [] r)
theorem CoP.back {w0 wI:World}{F0:Nat→Prop}{B:Bl}{pa pm KS:Nat}{rs cs:Array Value}{tf:Value}{nn kk:Int}{L0:List Nd}{st:Int→Bool}{J:List Nd→Int→Int→Prop}{FR:St→Int→List Int→St × Int × Int→Prop}{wA w w':World}{s:St}{F:Nat→Prop}{Sn:List Int}{id:Int}{e:Ending}(k:Below wA.heap.size wA w)(h:CoP w0 wI F0 B pa pm KS rs cs tf nn kk L0 st J FR w s F Sn id e w'):CoP w0 wI F0 B pa pm KS rs cs tf nn kk L0 st J FR wA s F Sn id e w':=by
 obtain⟨r,F',Sn',D',h1,h2,h3,h4,h5,h6,h7,h8⟩:=h
 exact⟨r,F',Sn',D',h1,h2,h3,h4,h5,fun b hb=>(h6 b hb).imp (fun h=>h) fun h=>Nat.le_trans k.size h,ButF.trans (butF_below k) h7 fun _ _ h=>h,h8⟩
structure KL (J:List Nd→Int→Int→Prop) (B:Bl) (pm:Nat) (w6:World) (s:St) (F:Nat→Prop) (Sn:List Int) (id:Int) (wr:World) (s':St) (F':Nat→Prop) (Sn':List Int) (t:Nat) (ks:List Int) (v:Value):Prop where
 le: ∃tl,s'.L=s.L++tl
 ps:Prs (J s'.L) ((ndI s.L id).kids.take t) ks
 ok: ∀k∈ks,okI s'.L k
 r:wr.ownsRow w6.heap.size 3 1 v ks.length (ks.map (Value.int .i64))
 nF: ∀b,v.ownBlock=some b→¬F' b
 sn: ∀x∈Sn',x∈Sn∨x<id
 f: ∀b,F' b→F b∨w6.heap.size≤b
 k:ButF (fun b=>b=pm∨F b∨b=B.bm) w6 wr
 z:t=0→s'=s
theorem come_step {w0 wI:World}{F0:Nat→Prop}{B:Bl}{pa pm KS:Nat}{rs cs:Array Value}{tf:Value}{nn kk:Int}{L0:List Nd}{G:Int→Prop}{st:Int→Bool}{J:List Nd→Int→Int→Prop}{FR:St→Int→List Int→St × Int × Int→Prop}(hM:Mks w0 wI F0 B pa pm KS rs cs tf nn kk L0 G st J FR)(id:Int)(hI:I64 id)(ho0:okI L0 id)(hGi:G id)
  (ih: ∀(id':Int),0≤id'→id'<id→okI L0 id'→G id'→∀(w:World) (s:St) (F:Nat→Prop) (Sn:List Int) (D:DataW Value),CS w0 wI F0 B pa pm (.func (.func KS) rs cs) tf nn kk L0 J w s F Sn D→
  Calls Tryz.prog 119 #[.int .i64 id',.pointer (some ⟨B.bs,0,none⟩),.pointer (some ⟨B.bk,0,none⟩),.pointer (some ⟨B.ba,0,none⟩),.pointer (some ⟨B.bc,0,none⟩),.pointer (some ⟨B.bt,0,none⟩)] w fun e w'=>CoP w0 wI F0 B pa pm KS rs cs tf nn kk L0 st J FR w s F Sn id' e w')
  (wA:World)(s:St)(F:Nat→Prop)(Sn:List Int)(D:DataW Value)(hCA:CS w0 wI F0 B pa pm (.func (.func KS) rs cs) tf nn kk L0 J wA s F Sn D):
  Calls Tryz.prog 119 #[.int .i64 id,.pointer (some ⟨B.bs,0,none⟩),.pointer (some ⟨B.bk,0,none⟩),.pointer (some ⟨B.ba,0,none⟩),.pointer (some ⟨B.bc,0,none⟩),.pointer (some ⟨B.bt,0,none⟩)] wA fun e w'=>CoP w0 wI F0 B pa pm KS rs cs tf nn kk L0 st J FR wA s F Sn id e w':=by
 have us:=cell_of_row wA B.bs 0 _ _ (0,0) hCA.b.hs
 have hst:=hide (hM.sf wA id hCA.x hGi ho0)
 have hsg:=hM.sg
 have hoS:okI s.L id:=by
  obtain⟨t,e⟩:=hCA.l0
  rw[e]
  exact okI_app ho0
 have hnS:ndI s.L id=ndI L0 id:=by
  obtain⟨t,e⟩:=hCA.l0
  rw[e]
  exact ndI_app ho0
 have hky:=keyOf_i hI
 have hz0: ∀w:World,(zeroValue 3).run Tryz.prog w= .ok (.int .i64 0) w:=fun w=>by kernel_rfl
 rcases hsb:st id with _|_
 rotate_left
 ·rw[hsb]at hst
  have hfin:Hid (∀w1,Below wA.heap.size wA w1→CoP w0 wI F0 B pa pm KS rs cs tf nn kk L0 st J FR wA s F Sn id (.returned (.tuple #[.int .i64 id,.int .i64 0])) w1):=hide fun w1 k=>⟨(s,id,0),F,Sn,D,rfl,hCA.below k,kp_now hCA.e.v fun _=>hoS,fun _=>hM.jst s id hCA.l0 hCA.e.v hGi ho0 hsb,fun x hx=> .inl hx,fun b hb=> .inl hb,butF_below k,fun h=>absurd rfl h,fun _ h=>by rw[hsb]at h;cases h⟩
  clear ih hnS hCA
  go_enter Tryz.func119,Tryz.ntmps119
  go_wp2_with fail
  refine hst.out.mono ?_
  rintro e w1 ⟨rfl,k1⟩
  have h1:=hide (hfin.out w1 k1)
  clear hfin hst us k1
  go_wp2_with fail
  refine bodyPost_ret (results_tmp2 rfl _ _ _) rfl ?_
  exact h1.out
 rw[hsb]at hst
 replace ih:=hide ih
 replace hnS:=hide hnS
 go_enter Tryz.func119,Tryz.ntmps119
 go_wp2_with fail
 refine hst.out.mono ?_
 rintro e w ⟨rfl,kA⟩
 have hback:Hid (∀e w',CoP w0 wI F0 B pa pm KS rs cs tf nn kk L0 st J FR w s F Sn id e w'→CoP w0 wI F0 B pa pm KS rs cs tf nn kk L0 st J FR wA s F Sn id e w'):=hide fun e w' h=>h.back kA
 have hC:=hCA.below kA
 clear hst us hCA kA hsg
 have uk:=cell_of_row w B.bk 0 _ _ (0,0) hC.b.hk
 have ua:=cell_of_row w B.ba 0 _ _ (0,0) hC.b.ha
 have hmp:=hC.m
 have hmd:=hC.d id hI
 have hlen:=hC.len
 by_cases hin:id∈Sn
 ·rw[decide_eq_true hin]at hmd
  obtain⟨hok,y,hat,hoy,hJ⟩:=hC.j id hin
  have hfin:Hid (CoP w0 wI F0 B pa pm KS rs cs tf nn kk L0 st J FR w s F Sn id (.returned (.tuple #[.int .i64 y,.int .i64 0])) w):=hide ⟨(s,y,0),F,Sn,D,rfl,hC,kp_now hC.e.v fun _=>hoy,fun _=>hJ,fun x hx=> .inl hx,fun b hb=> .inl hb,⟨rfl,rfl,rfl,Nat.le_refl _,fun _ _ _=>rfl⟩,fun h=>absurd rfl h,fun _ _ h=>absurd hin h⟩
  clear ih
  go_wp2_with(at_lookup;refine wpList_lookup_own_ok_int _ rfl _ _ 146 rfl 3 3 .i64 tk Tryz.underlying146 Tryz.underlying3 (hz0 _) B.bm Sn.length D rfl hmp (.int .i64 id) (.int .i64 id) rfl hky ?_;intro cc hcc _;rw[hmd];obtain rfl:cc=y:=(by have h9:=hcc.symm.trans (hat _);injection h9 with h9;injection h9);clear hcc)
  refine bodyPost_ret (results_tmp2 rfl _ _ _) rfl ?_
  exact hback.out _ _ hfin.out
 rw[decide_eq_false hin]at hmd
 have hnode:=hide (node9_n (B:=1048576) hC.e.g.ax hC.e.v hC.e.k0 (Int.le_trans hC.e.k8 (by decide)) o_m id)
 go_wp2_with(at_lookup;refine wpList_lookup_own_ok_int _ rfl _ _ 146 rfl 3 3 .i64 tk Tryz.underlying146 Tryz.underlying3 (hz0 _) B.bm Sn.length D rfl hmp (.int .i64 id) (.int .i64 id) rfl hky ?_;intro cc _ _;rw[hmd])
 clear uk ua hmp hmd
 refine hnode.out.mono ?_
 clear hnode
 rintro e w5 (⟨hok,xr,rfl,hN,k5⟩|⟨hok,rfl,k5⟩)
 ·obtain⟨kdn,sd,ad,ld,cd,ap,np,cp,sk,ak,lk,ck,vr,kka,kkn,kkc⟩:=xr
  obtain rfl:kdn=(ndI s.L id).kind:=hN.kd
  obtain rfl:vr=(ndI s.L id).var:=hN.vr
  obtain rfl:kkn=(ndI s.L id).kids.length:=hN.kids.1.symm
  simp only[nE]
  have b6:=below_alloc w5 (.cells #[.int .i64 (ndI s.L id).kind,.bool sd,.slice ad ld cd,.slice ap np cp,.bool sk,.slice ak lk ck,.int .i64 (ndI s.L id).var,.slice kka (ndI s.L id).kids.length kkc] 77)
  have y6:NB (w5.alloc (.cells #[.int .i64 (ndI s.L id).kind,.bool sd,.slice ad ld cd,.slice ap np cp,.bool sk,.slice ak lk ck,.int .i64 (ndI s.L id).var,.slice kka (ndI s.L id).kids.length kkc] 77)) w5.heap.size (ndI s.L id).kind sd ad ld cd ap np cp sk ak lk ck (ndI s.L id).var kka (ndI s.L id).kids.length kkc:=NB.new w5 _ _ _ _ _ _ _ _ _ _ _ _ _ _ _ _
  have hC6:=hC.below (grow_step b6 k5)
  have hN6:NC (fun b=>w.heap.size≤b∧b<w5.heap.size) (w5.alloc (.cells #[.int .i64 (ndI s.L id).kind,.bool sd,.slice ad ld cd,.slice ap np cp,.bool sk,.slice ak lk ck,.int .i64 (ndI s.L id).var,.slice kka (ndI s.L id).kids.length kkc] 77)) ⟨(ndI s.L id).kind,sd,ad,ld,cd,ap,np,cp,sk,ak,lk,ck,(ndI s.L id).var,kka,(ndI s.L id).kids.length,kkc⟩ (ndI s.L id) 1048576:=hN.move b6.size (fun b _ hl=>b6.block b hl) fun b hb hl=>⟨hb,hl⟩
  have s6:(w5.alloc (.cells #[.int .i64 (ndI s.L id).kind,.bool sd,.slice ad ld cd,.slice ap np cp,.bool sk,.slice ak lk ck,.int .i64 (ndI s.L id).var,.slice kka (ndI s.L id).kids.length kkc] 77)).heap.size=w5.heap.size+1:=by simp
  have k6:=grow_step b6 k5
  have hCpm:=hC.e.g.mb.lt
  have hCF:=hC.e.g.fl
  have hCbm:=hC.bl
  have hCv: ∀b,B.var b→b<w.heap.size:=fun b hb=>hC.b.lt hb
  have hw5:=k5.size
  clear hN hC
  go_wp2_with fail
  clear b6 k5
  generalize w5.alloc (.cells #[.int .i64 (ndI s.L id).kind,.bool sd,.slice ad ld cd,.slice ap np cp,.bool sk,.slice ak lk ck,.int .i64 (ndI s.L id).var,.slice kka (ndI s.L id).kids.length kkc] 77)=w6 at*
  go_loopw [13,43] (fun v q wr=> ∃(t:Nat) (s':St) (F':Nat→Prop) (Sn':List Int) (D':DataW Value) (ks:List Int),t≤(ndI s.L id).kids.length∧q= .int .i64 t∧Hid (CS w0 wI F0 B pa pm (.func (.func KS) rs cs) tf nn kk L0 J wr s' F' Sn' D')∧Hid (KL J B pm w6 s F Sn id wr s' F' Sn' t ks v)) (fun _ q _=>(ndI s.L id).kids.length-(intOf q).toNat)
  case atStart=>exact⟨0,s,F,Sn,D,[],Nat.zero_le _,rfl,hide hC6,hide ⟨⟨[],by simp⟩,trivial,fun k hk=>absurd hk List.not_mem_nil,World.ownsRow_nil _ _ _ _,(fun b hb=>(by cases hb)),fun x hx=> .inl hx,fun b hb=> .inl hb,⟨rfl,rfl,rfl,Nat.le_refl _,fun _ _ _=>rfl⟩,fun _=>rfl⟩⟩
  case round=>
   obtain⟨t,s',F',Sn',D',ks,ht,rfl,hCr,hLr⟩:=hrel
   have hpl:=hC6.e.g.mb.lt
   have hfr: ∀b,w.heap.size≤b→b<w6.heap.size→wr.heap[b]? =w6.heap[b]?:=fun b h1 h2=>hLr.out.k.block b h2 fun hf=>by
    rcases hf with rfl|hf|rfl
    ·exact absurd hCpm o_m
    ·have:=hCF b hf
     omega
    omega
   have yr:NB wr w5.heap.size (ndI s.L id).kind sd ad ld cd ap np cp sk ak lk ck (ndI s.L id).var kka (ndI s.L id).kids.length kkc:=(hfr _ hw5 o_m).trans y6
   have hNr:NC (fun b=>w.heap.size≤b∧b<w5.heap.size) wr ⟨(ndI s.L id).kind,sd,ad,ld,cd,ap,np,cp,sk,ak,lk,ck,(ndI s.L id).var,kka,(ndI s.L id).kids.length,kkc⟩ (ndI s.L id) 1048576:=hN6.move hLr.out.k.size (fun b hb hl=>hfr b hb.1 hl) fun _ hb _=>hb
   have hsw:=hLr.out.k.size
   obtain⟨a2,c2,rfl⟩:=own_form hLr.out.r
   by_cases htn:t<(ndI s.L id).kids.length
   ·rcases hNr.kids.2 with h0|⟨kb,ko,rfl,hkb,hkc⟩
    ·dsimp only at h0
     omega
    obtain⟨hcz,hIz⟩:=hkc t htn
    have hzk:(ndI s.L id).kids[t]∈(ndI s.L id).kids:=List.getElem_mem _
    have hzw:=hC6.e.v.wk id hok _ hzk
    have htk:Hid ((ndI s.L id).kids.take (t+1)=(ndI s.L id).kids.take t++ [(ndI s.L id).kids[t]]):=hide (List.take_succ_eq_append_getElem htn)
    generalize (ndI s.L id).kids[t]=z at*
    have hcall:=hide (ih.out z hzw.1 hzw.2 ⟨hzw.1,Int.lt_trans hzw.2 ho0.2⟩ (hM.gk id hGi ho0 hsb z (hnS.out▸hzk)) wr s' F' Sn' D' hCr.out)
    have uc:=cell_of_row wr B.bc 0 _ _ (0,0) hCr.out.b.hc
    clear ih hkc
    go_wp2_with fail
    refine hcall.out.mono ?_
    clear hcall
    rintro e w7 ⟨r1,F1,Sn1,D1,rfl,hC1,hK1,hJ1,hs1,hf1,hb1,hE1,-⟩
    have hwz:w.heap.size≤wr.heap.size:=by omega
    have hbw:ButF (fun b=>b=pm∨F b∨b=B.bm) w w7:=by
     have h1:ButF (fun b=>b=pm∨F b∨b=B.bm) w wr:=ButF.trans (butF_below k6) hLr.out.k fun _ _ h=>h
     refine ButF.trans h1 hb1 fun b hb hg=> ?_
     rcases hg with hg|hg|hg
     ·exact .inl hg
     ·exact .inr (.inl ((hLr.out.f b hg).resolve_right (by have:=k6.size;omega)))
     exact .inr (.inr hg)
    have hlew: ∃tl,r1.1.L=s.L++tl:=by
     obtain⟨t1,e1⟩:=hLr.out.le
     obtain⟨t2,e2⟩:=hK1.le
     exact⟨t1++t2,by rw[e2,e1,List.append_assoc]⟩
    have hff: ∀b,F1 b→F b∨w6.heap.size≤b:=fun b hb=>(hf1 b hb).elim (hLr.out.f b) fun h=> .inr o_m
    have hss: ∀x∈Sn1,x∈Sn∨x<id:=fun x hx=>(hs1 x hx).elim (hLr.out.sn x) fun h=> .inr o_m
    by_cases he:r1.2.2=0
    ·have hy:=hK1.ok he
     have hJy:=hJ1 he
     rw[he]
     have hyb:=hC1.len.1
     have hk22:(ndI s.L id).kids.length≤2002:=by have h1:=(hC6.e.v.kids hok).1;have h2:=hok.2;omega
     have hyI:I64 r1.2.1:=by have h1:=hy.1;have h2:=hy.2;unfold I64;omega
     generalize r1.2.1=y at*
     have b8:=below_alloc w7 (.cells #[.int .i64 y] 3)
     have hI8:Hid (IL (w7.alloc (.cells #[.int .i64 y] 3)) (some ⟨w7.heap.size,0,none⟩) 1 [y]):=hide (il_one (heap_alloc_new w7 _) hyI)
     have hvb: ∀b,(Value.slice a2 ks.length c2).ownBlock=some b→w6.heap.size≤b∧b<wr.heap.size∧¬F' b:=fun b hb=>⟨(hLr.out.r.lt b hb).1,(hLr.out.r.lt b hb).2,hLr.out.nF b hb⟩
     have hr7:w7.ownsRow w6.heap.size 3 1 (.slice a2 ks.length c2) ks.length (ks.map (Value.int .i64)):=by
      have hr:=hLr.out.r
      refine⟨hr.1,hr.2.imp (fun h=>h) ?_⟩
      rintro⟨g,cap,cur,e1,e2,e3,e4⟩
      have h1:=hvb g (by rw[e1];rfl)
      exact⟨g,cap,cur,e1,e2,(hb1.block g h1.2.1 fun hg=>by rcases hg with rfl|hg|rfl <;> first|omega|exact h1.2.2 hg).trans e3,e4⟩
     have hr8:=hide (own_below hr7 b8)
     have hz8:w6.heap.size≤(w7.alloc (.cells #[.int .i64 y] 3)).heap.size:=by have h1:=b8.size;have h2:=hb1.size;omega
     have hkl:ks.length≤2002:=by
      have h1:=prs_len hLr.out.ps
      rw[List.length_take]at h1
      have h2:=(hC6.e.v.kids hok).1
      have h3:=hok.2
      omega
     have hrel9:Hid (∀v' w9,World.ownsRow w9 w6.heap.size 3 1 v' (ks.length+1) ((ks++ [y]).map (Value.int .i64))→World.grownBy (w7.alloc (.cells #[.int .i64 y] 3)) w9 (Value.slice a2 ks.length c2).ownBlock→(v'.ownBlock=(Value.slice a2 ks.length c2).ownBlock∨v'.ownBlock=some (w7.alloc (.cells #[.int .i64 y] 3)).heap.size)→CS w0 wI F0 B pa pm (.func (.func KS) rs cs) tf nn kk L0 J w9 r1.1 F1 Sn1 D1∧KL J B pm w6 s F Sn id w9 r1.1 F1 Sn1 (t+1) (ks++ [y]) v'):=hide fun v' w9 ho hg ha=>by
      have hg':ButF (fun b=>(Value.slice a2 ks.length c2).ownBlock=some b) (w7.alloc (.cells #[.int .i64 y] 3)) w9:=⟨hg.os,hg.tape,hg.output,hg.size,fun b hb hn=>hg.block b hb fun e=>hn e.symm⟩
      have hnF1: ∀b,(Value.slice a2 ks.length c2).ownBlock=some b→¬F1 b:=fun b hb hf=>by
       have h1:=hvb b hb
       rcases hf1 b hf with h2|h2
       ·exact h1.2.2 h2
       omega
      refine⟨(hC1.below b8).butF hg' (fun b hb _=>⟨hnF1 b hb,?_,?_,?_,?_⟩) (fun b hb=>by have h1:=hvb b hb;have h2:=hC6.x.size;omega),⟨hlew,?_,?_,by rw[List.length_append];exact ho,fun b hb=> ?_,hss,hff,?_,fun e=>by omega⟩⟩
      ·have h1:=hvb b hb;omega
      ·intro hv;have h1:=hvb b hb;have h2:=hCv b hv;omega
      ·have h1:=hvb b hb;omega
      ·have h1:=hvb b hb;have h2:=hC6.e.k.size;omega
      ·rw[htk.out]
       refine prs_snoc hJy (prs_mono (fun a ha b hb hab=> ?_) hLr.out.ps)
       have hka:okI s'.L a:=by
        obtain⟨t1,e1⟩:=hLr.out.le
        rw[e1]
        exact okI_app (hC6.e.v.wk.ok hok (List.mem_of_mem_take ha))
       exact hM.mo _ _ _ _ hCr.out.e.v hC1.e.v hK1.le hka (hLr.out.ok b hb) hab
      ·intro k hk
       rcases List.mem_append.1 hk with hk|hk
       ·exact hK1.okI (hLr.out.ok k hk)
       rw[List.mem_singleton.1 hk]
       exact hy
      ·intro hf
       rcases ha with ha|ha
       ·exact hnF1 b (ha▸hb) hf
       rw[ha]at hb
       cases hb
       have h1:=hC1.e.g.fl _ hf
       have h2:=b8.size
       omega
      have h1:ButF (fun b=>b=pm∨F b∨b=B.bm) w6 w7:=ButF.trans hLr.out.k hb1 fun b hb hg=>by
       rcases hg with hg|hg|hg
       ·exact .inl hg
       ·exact .inr (.inl ((hLr.out.f b hg).resolve_right o_m))
       exact .inr (.inr hg)
      exact ButF.trans (ButF.trans h1 (butF_below (F:=fun _=>False) b8) fun _ _ h=>h.elim) hg' fun b hb hg=>by have h1:=hvb b hg;omega
     clear hr7 b8 hLr hCr hC6 hC1 hK1 hJ1 hs1 hf1 hb1 hbw hlew hff hss hNr hN6 hfr
     go_wp2_with(at_builtin;refine app_ii rfl _ _ rfl w6.heap.size _ _ _ rfl hr8.out (some ⟨w7.heap.size,0,none⟩) 1 1 [y] rfl (by decide) hI8.out o_m hz8 ?_;intro v' w9 ho hg ha;have h9:=hide (hrel9.out v' w9 ho hg ha);clear ho hg ha hrel9 hr8 hI8)
     exact⟨⟨t+1,r1.1,F1,Sn1,D1,ks++ [y],by omega,by go_num,hide h9.out.1,hide h9.out.2⟩,by simp[intOf];omega⟩
    have hfin:Hid (CoP w0 wI F0 B pa pm KS rs cs tf nn kk L0 st J FR w s F Sn id (.returned (.tuple #[.int .i64 0,.int .i64 r1.2.2])) w7):=hide ⟨(r1.1,0,r1.2.2),F1,Sn1,D1,rfl,hC1,⟨hlew,hC1.e.v,fun e=>absurd e he⟩,fun e=>absurd e he,fun x hx=>(hss x hx).imp (fun h=>h) (fun h=>by omega),fun b hb=>(hff b hb).imp (fun h=>h) (fun h=>by have:=k6.size;omega),hbw,fun _=>hE1 he,fun hk _ _=>by rw[hk]at htn;simp at htn⟩
    clear hLr hCr hC6 hC1 hK1 hJ1 hs1 hf1 hb1 hbw hlew hff hss hNr hN6 hfr
    generalize r1.2.2=er at*
    go_wp2_with fail
    first|refine bodyPost_ret (results_tmp2 rfl _ _ _) rfl ?_|(rw[Exit.noGoto_ret];refine bodyPost_ret (results_tmp2 rfl _ _ _) rfl ?_)
    exact hback.out _ _ hfin.out
   obtain rfl:t=(ndI s.L id).kids.length:=by omega
   have hps:=hLr.out.ps
   rw[List.take_length]at hps
   have hki: ∀x∈ks,I64 x:=fun x hx=>by
    have h1:=hLr.out.ok x hx
    have h2:=hCr.out.len.1
    have h3:=h1.1
    have h4:=h1.2
    unfold I64
    omega
   obtain⟨a3,c3,e3,hIk,-⟩:=row_il hLr.out.r hki
   cases e3
   obtain⟨tl,etl⟩:=hLr.out.le
   have hok':okI s'.L id:=by rw[etl];exact okI_app hok
   have hnd':ndI s'.L id=ndI s.L id:=by rw[etl];exact ndI_app hok
   have hcall:=hM.fn wr s' F' id ⟨(ndI s.L id).kind,sd,ad,ld,cd,ap,np,cp,sk,ak,lk,ck,(ndI s.L id).var,kka,(ndI s.L id).kids.length,kkc⟩ ks a2 c2 hCr.out.e hCr.out.x ho0 hGi hsb hCr.out.l0 (by rw[hnd'];exact NC.any hNr) hIk hLr.out.ok (by rw[hnd'];exact(prs_len hps).symm) (fun b off e h0=>by
    have hob:(Value.slice a2 ks.length c2).ownBlock=some b:=by rw[e];rfl
    have h1:=(hLr.out.r.lt b hob).1
    exact⟨hLr.out.nF b hob,by omega⟩)
   simp only[nE]at hcall
   replace hcall:=hide hcall
   have uf:=cell_of_row wr B.bt 0 _ _ (0,0) hCr.out.b.ht
   have ua:=cell_of_row wr B.ba 0 _ _ (0,0) hCr.out.b.ha
   have g0:=yr.c0
   have g1:=yr.c1
   have g2:=yr.c2
   have g3:=yr.c3
   have g4:=yr.c4
   have g5:=yr.c5
   have g6:=yr.c6
   have g7:=yr.c7
   clear ih hIk hki
   go_wp2_with fail
   refine hcall.out.mono ?_
   clear hcall g0 g1 g2 g3 g4 g5 g6 g7 uf ua
   rintro e w7 ⟨r,hFR,hAO⟩
   have hKr:=hM.kp s' id ks r hFR hCr.out.e.v hok'
   obtain⟨F7,hC7,hf7,hb7⟩:=hCr.out.next hM.mo hAO hKr
   have he7:=hAO.1
   subst he7
   have hbw:ButF (fun b=>b=pm∨F b∨b=B.bm) w w7:=by
    have h1:ButF (fun b=>b=pm∨F b∨b=B.bm) w wr:=ButF.trans (butF_below k6) hLr.out.k fun _ _ h=>h
    refine ButF.trans h1 hb7 fun b hb hg=> ?_
    rcases hg with hg|hg|hg
    ·exact .inl hg
    ·exact .inr (.inl ((hLr.out.f b hg).resolve_right (by have:=k6.size;omega)))
    exact .inr (.inr hg)
   have hKs:Kp kk s r:=by
    obtain⟨t2,e2⟩:=hKr.le
    exact⟨⟨tl++t2,by rw[e2,etl,List.append_assoc]⟩,hKr.gv,hKr.ok⟩
   have hff: ∀b,F7 b→F b∨w.heap.size≤b:=fun b hb=>(hf7 b hb).elim (fun h=>(hLr.out.f b h).imp (fun h=>h) (fun h=>by have:=k6.size;omega)) fun h=> .inr (by have:=k6.size;omega)
   have hEr:r.2.2≠0→r.1.er≠0:=fun he=>hM.er s' id ks r hFR hCr.out.e.v hok' hLr.out.ok (by rw[hnd'];exact(prs_len hps).symm) he
   have hleaf:(ndI s.L id).kids= []→st id=false→id∉Sn→FR s id [] r:=fun hk _ _=>by
    have h1:=hLr.out.z (by rw[hk];rfl)
    rw[hk]at hps
    have h2:=prs_len hps
    have h3:ks= []:=List.eq_nil_of_length_eq_zero (by simpa using h2.symm)
    rw[h1,h3]at hFR
    exact hFR
   have hJr:r.2.2=0→J r.1.L id r.2.1:=fun he=>hM.js s' id ks r hFR hCr.out.e.v hok' (by rw[hnd'];exact hps) hLr.out.ok he
   by_cases he:r.2.2=0
   ·have hy:=hKr.ok he
    have hyl:=hC7.len
    have hyI:I64 r.2.1:=by have h1:=hy.1;have h2:=hy.2;unfold I64;omega
    have hid7:okI r.1.L id:=hKr.okI hok'
    have hnin:id∉Sn':=fun h=>(hLr.out.sn id h).elim hin fun h=>by omega
    have uk7:=cell_of_row w7 B.bk 0 _ _ (0,0) hC7.b.hk
    have hmp7:=hC7.m
    have hml:Sn'.length<maxLen:=by unfold maxLen;omega
    have hput:Hid (∀w8:World,w8.ownsMap Tryz.prog 3 (plainElem Tryz.prog 3) B.bm (Sn'.length+1) (D'.put (.int .i64 id) (.lit (.int .i64 r.2.1)))→w7.grownBy w8 (some B.bm)→CoP w0 wI F0 B pa pm KS rs cs tf nn kk L0 st J FR w s F Sn id (.returned (.tuple #[.int .i64 r.2.1,.int .i64 0])) w8):=hide fun w8 hm8 hg8=>by
     refine⟨r,F7,id::Sn',_,by rw[he],hC7.put hid7 hy (hJr he) hnin hm8 hg8,hKs,hJr,fun x hx=> ?_,hff,?_,hEr,hleaf⟩
     ·rcases List.mem_cons.1 hx with rfl|hx
      ·exact .inr (Int.le_refl _)
      exact(hLr.out.sn x hx).imp (fun h=>h) (fun h=>by omega)
     exact ButF.trans hbw (⟨hg8.os,hg8.tape,hg8.output,hg8.size,fun b hb hn=>hg8.block b hb fun e=>hn (Option.some.inj e)⟩:ButF (fun b=>b=B.bm) w7 w8) fun b _ hb=> .inr (.inr hb)
    rw[he]
    clear hLr hCr hC6 hC7 hKr hf7 hb7 hbw hKs hff hleaf hEr hJr hFR hAO hNr hN6 hfr hps
    generalize r.2.1=y at*
    go_wp2_with(at_mapUpdate;refine wpList_mapUpdate_own _ rfl _ _ _ 146 rfl 3 3 tk Tryz.underlying146 (plainElem Tryz.prog 3) B.bm Sn'.length D' rfl hmp7 hml _ _ (.int .i64 id) rfl rfl hky (.lit (.int .i64 y)) [] (plainElem_int Tryz.underlying3 (i64_wf hyI)) ?_;intro w8 hm8 hg8;have h8:=hide (hput.out w8 hm8 hg8);clear hm8 hg8 hput hmp7)
    refine bodyPost_ret (results_tmp2 rfl _ _ _) rfl ?_
    exact hback.out _ _ h8.out
   have hfin:Hid (CoP w0 wI F0 B pa pm KS rs cs tf nn kk L0 st J FR w s F Sn id (.returned (.tuple #[.int .i64 r.2.1,.int .i64 r.2.2])) w7):=hide ⟨r,F7,Sn',D',rfl,hC7,hKs,hJr,fun x hx=>(hLr.out.sn x hx).imp (fun h=>h) (fun h=>by omega),hff,hbw,hEr,hleaf⟩
   clear hLr hCr hC6 hC7 hKr hf7 hb7 hbw hKs hff hleaf hEr hJr hFR hAO hNr hN6 hfr hps
   generalize r.2.2=er at*
   generalize r.2.1=y at*
   go_wp2_with fail
   refine bodyPost_ret (results_tmp2 rfl _ _ _) rfl ?_
   exact hback.out _ _ hfin.out
 exact absurd hoS hok
theorem come_n {w0 wI:World}{F0:Nat→Prop}{B:Bl}{pa pm KS:Nat}{rs cs:Array Value}{tf:Value}{nn kk:Int}{L0:List Nd}{G:Int→Prop}{st:Int→Bool}{J:List Nd→Int→Int→Prop}{FR:St→Int→List Int→St × Int × Int→Prop}(hM:Mks w0 wI F0 B pa pm KS rs cs tf nn kk L0 G st J FR): ∀(N:Nat) (id:Int),id<(N:Int)→I64 id→okI L0 id→G id→∀(w:World) (s:St) (F:Nat→Prop) (Sn:List Int) (D:DataW Value),CS w0 wI F0 B pa pm (.func (.func KS) rs cs) tf nn kk L0 J w s F Sn D→
  Calls Tryz.prog 119 #[.int .i64 id,.pointer (some ⟨B.bs,0,none⟩),.pointer (some ⟨B.bk,0,none⟩),.pointer (some ⟨B.ba,0,none⟩),.pointer (some ⟨B.bc,0,none⟩),.pointer (some ⟨B.bt,0,none⟩)] w fun e w'=>CoP w0 wI F0 B pa pm KS rs cs tf nn kk L0 st J FR w s F Sn id e w'
 |0,id,hid,hI,ho,hG=>come_step hM id hI ho hG fun id' h1 h2=>by omega
 |N+1,id,hid,hI,ho,hG=>come_step hM id hI ho hG fun id' h1 h2=>come_n hM N id' o_m (by unfold I64 at*;omega)
end Sb
end Nt
end Go.Proofs.YtllfelooahplhaaGreatDoor
