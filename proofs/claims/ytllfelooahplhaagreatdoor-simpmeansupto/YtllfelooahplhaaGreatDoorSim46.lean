/-
 Several texts in one: J8,JR,J9,JD,JE,JF,JO,JC,JG,JH.
-/
import Derived.Test.YtllfelooahplhaaGreatDoorSim45
import Derived.Laws.AppendOwnNone
import Derived.Maps.OwnSet
import Derived.WalkMore
import Derived.Test.YtllfelooahplhaaGreatDoorSim42
set_option maxRecDepth 100000
set_option maxHeartbeats 3200000
namespace Go.Proofs.YtllfelooahplhaaGreatDoor
open Go.RowKit Go.Sort Go.Shelf
open Tm At
namespace Nt

theorem info9 :(Tryz.prog.info? 155).map (fun i=>(i.zero,i.size,i.bytes))=some (some (.agg #[.int .i64 0,.int .i64 0,.bool false,.slice none 0 0,.slice none 0 0,.bool false,.slice none 0 0,.int .i64 0,.slice none 0 0]),9,136):=by kernel_rfl
theorem enc9_one (m:Mr): ∀u∈m.enc,u.oneCell'=true:=by
 intro u hu
 simp[Mr.enc,mE]at hu
 rcases hu with rfl|rfl|rfl|rfl|rfl|rfl|rfl|rfl|rfl <;> rfl
theorem app9 {w:World}{ops:Array Oper}{rest:List Oper}{o:Oper}{a:Act}{Q:Exit→Act→World→Prop}(hgd:o.guard=none)(s x:Operand)(ho:o.op= .call {callee:=.builtin .append,args:=#[s,x],argTypes:=#[150,150]})(base:Nat)(v:Value)(n:Nat)(rs:List Mr)(hs:a.eval s=v)(hown:w.ownsRow base 155 9 v n (flat9 rs))
  (m:Mr)(g:Nat)(hx:a.eval x= .slice (some ⟨g,0,none⟩) 1 1)(hc:M9B w g m.id m.x)(h63:n+1≤1048576)(hbase:base≤w.heap.size)
  (h: ∀v' w',w'.ownsRow base 155 9 v' (n+1) (flat9 (rs++ [m]))→w.grownBy w' v.ownBlock→(v'.ownBlock=v.ownBlock∨v'.ownBlock=some w.heap.size)→wpList Tryz.prog ops Q rest (a.put o.dst v') w'):wpList Tryz.prog ops Q (o::rest) a w:=by
 obtain⟨i0,hi,hz0,hz1,hz2⟩:=info_parts info9
 refine wpList_append_own_at w hgd s x 150 ho base 155 i0 _ 9 136 Tryz.underlying150 hi hz0 hz1 hz2 rfl (by decide) v n (flat9 rs) hs hown ⟨g,0,none⟩ 1 1 m.enc hx (by rw[enc9_len]) (fun j u hu=> ?_) (enc9_one m) (by unfold maxLen;omega) o_m hbase ?_
 ·rw[Addr.add_lit,Nat.zero_add,hc.c j,←hu]
  simp[Mr.enc]
 intro v' w' h1 h2 _ h4
 refine h v' w' ?_ h2 h4
 rw[show flat9 (rs++ [m])=flat9 rs++m.enc by simp[flat9]]
 exact h1
theorem row9_cell {w:World}{base n:Nat}{v:Value}{rs:List Mr}(h:w.ownsRow base 155 9 v n (flat9 rs))(hn:rs.length=n){i:Nat}(hi:i<n):
  ∃g cap,v= .slice (some ⟨g,0,none⟩) n cap∧g<w.heap.size∧∀j,j<9→w.cell? ⟨g,i*9+j,none⟩=(rs[i]'o_m).enc[j]?:=by
 rcases h.2 with⟨_,h0⟩|⟨g,cap,cur,e1,_,e3,h1,h2,h3,h4⟩
 ·omega
 refine⟨g,cap,e1,lt_of_block e3,fun j hj=> ?_⟩
 rw[cell_of_row w g (i*9+j) _ _ (0,0) e3,←flat9_get rs i j o_m hj,←h4,List.getElem?_take,if_pos o_m]
 simp
theorem row9_form {w:World}{base n:Nat}{v:Value}{rs:List Mr}(h:w.ownsRow base 155 9 v n (flat9 rs)): ∃a c,v= .slice a n c:=by
 rcases Joins.ownsRow_forms h with⟨h1,h2⟩|⟨g,cap,h1⟩
 ·exact⟨none,0,by rw[h1,h2]⟩
 exact⟨_,cap,h1⟩
def Ap (v u:Value):Prop:=∀b,v.ownBlock=some b→u.ownBlock≠some b
theorem Ap.symm {v u:Value}(h:Ap v u):Ap u v:=fun b hb hv=>h b hv hb
structure R3 (w:World) (s0:Nat) (v1 v2 v3:Value) (l1 l2 l3:List Mr):Prop where
 r1:w.ownsRow s0 155 9 v1 l1.length (flat9 l1)
 r2:w.ownsRow s0 155 9 v2 l2.length (flat9 l2)
 r3:w.ownsRow s0 155 9 v3 l3.length (flat9 l3)
 a12:Ap v1 v2
 a13:Ap v1 v3
 a23:Ap v2 v3
theorem gb_none {w w':World}(k:Below w.heap.size w w'):w.grownBy w' none:=⟨k.os,k.tape,k.output,k.size,fun i hi _=>k.block i hi⟩
theorem R3.below {w w':World}{s0:Nat}{v1 v2 v3:Value}{l1 l2 l3:List Mr}(h:R3 w s0 v1 v2 v3 l1 l2 l3)(k:Below w.heap.size w w'):R3 w' s0 v1 v2 v3 l1 l2 l3:=
 {h with r1:=own_below h.r1 k,r2:=own_below h.r2 k,r3:=own_below h.r3 k}
theorem Ap.ne {v u:Value}(h:Ap v u):u.ownBlock=none∨u.ownBlock≠v.ownBlock:=by
 cases hu:u.ownBlock with
 |none=>exact .inl rfl
 |some b=>exact .inr (fun e=>h b e.symm hu)
theorem Ap.step {w:World}{base n:Nat}{v v' u:Value}{rs:List Mr}(h:Ap v u)(hu:w.ownsRow base 155 9 u n (flat9 rs))(ha:v'.ownBlock=v.ownBlock∨v'.ownBlock=some w.heap.size):Ap v' u:=by
 intro b hb e
 rcases ha with ha|ha
 ·exact h b (ha▸hb) e
 rw[ha]at hb
 have:=(hu.lt b e).2
 cases hb
 omega
theorem R3.step {w w':World}{s0:Nat}{v1 v2 v3 v':Value}{l1 l2 l3:List Mr}{m:Mr}(h:R3 w s0 v1 v2 v3 l1 l2 l3)(ho:w'.ownsRow s0 155 9 v' (l1.length+1) (flat9 (l1++ [m])))(hg:w.grownBy w' v1.ownBlock)(ha:v'.ownBlock=v1.ownBlock∨v'.ownBlock=some w.heap.size):R3 w' s0 v' v2 v3 (l1++ [m]) l2 l3:=
 ⟨by rw[List.length_append,List.length_singleton];exact ho,h.r2.kept hg h.a12.ne,h.r3.kept hg h.a13.ne,h.a12.step h.r2 ha,h.a13.step h.r3 ha,h.a23⟩
theorem R3.swap {w:World}{s0:Nat}{v1 v2 v3:Value}{l1 l2 l3:List Mr}(h:R3 w s0 v1 v2 v3 l1 l2 l3):R3 w s0 v2 v1 v3 l2 l1 l3:=⟨h.r2,h.r1,h.r3,h.a12.symm,h.a23,h.a13⟩
theorem R3.turn {w:World}{s0:Nat}{v1 v2 v3:Value}{l1 l2 l3:List Mr}(h:R3 w s0 v1 v2 v3 l1 l2 l3):R3 w s0 v3 v2 v1 l3 l2 l1:=⟨h.r3,h.r2,h.r1,h.a23.symm,h.a13.symm,h.a12.symm⟩
def p1 (m:Mr):Bool:=m.n.kind==2
def p2 (m:Mr):Bool:=m.n.kind==3||m.n.kind==4
def p3 (m:Mr):Bool:=!(p1 m||p2 m)
theorem parted_n {w:World}{base n:Nat}{v:Value}{rs:List Mr}(h:w.ownsRow base 155 9 v n (flat9 rs))(hn:rs.length=n)(hb:n≤1048000)(hk: ∀m∈rs,m.x.kd=m.n.kind):
  Calls Tryz.prog 96 #[v] w fun e w'=> ∃v1 v2 v3,e= .returned (.tuple #[v1,v2,v3])∧R3 w' w.heap.size v1 v2 v3 (rs.filter p1) (rs.filter p2) (rs.filter p3)∧Below w.heap.size w w':=by
 obtain⟨av,cv,rfl⟩:=row9_form h
 go_enter Tryz.func96,Tryz.ntmps96
 go_wp2_with fail
 go_loopw [2,3,4,9] (fun v1 v2 v3 q wr=> ∃t:Nat,t≤n∧q= .int .i64 t∧Hid (R3 wr w.heap.size v1 v2 v3 ((rs.take t).filter p1) ((rs.take t).filter p2) ((rs.take t).filter p3))∧Hid (Below w.heap.size w wr)) (fun _ _ _ q _=>n-(intOf q).toNat)
 case atStart=>
  have hnl: ∀b,(Value.slice none 0 0).ownBlock≠some b:=fun b e=>by cases e
  exact⟨0,Nat.zero_le _,rfl,hide ⟨World.ownsRow_nil _ _ _ _,World.ownsRow_nil _ _ _ _,World.ownsRow_nil _ _ _ _,fun b _=>hnl b,fun b _=>hnl b,fun b _=>hnl b⟩,hide (Below.refl _ _)⟩
 case round=>
  obtain⟨t,ht,rfl,hR,kr⟩:=hrel
  by_cases htn:t<n
  ·obtain⟨g,cap,hsl,hgl,hcell⟩:=row9_cell (own_below h kr.out) hn htn
   injection hsl with ea eb ec
   subst ea ec
   have htk:Hid (rs.take (t+1)=rs.take t++ [rs[t]'o_m]):=hide (List.take_succ_eq_append_getElem o_m)
   have hkd:=hk (rs[t]'o_m) (List.getElem_mem _)
   generalize rs[t]'o_m=m at*
   obtain⟨i,⟨kd,sd,ad,ld,cd,ap,np,cp,sk,ak,lk,ck,vr,ka,kn,kc⟩,nd⟩:=m
   dsimp only at hkd
   have e0:=hcell 0 (by decide)
   have e1:=hcell 1 (by decide)
   have e2:=hcell 2 (by decide)
   have e3:=hcell 3 (by decide)
   have e4:=hcell 4 (by decide)
   have e5:=hcell 5 (by decide)
   have e6:=hcell 6 (by decide)
   have e7:=hcell 7 (by decide)
   have e8:=hcell 8 (by decide)
   clear hcell
   simp only[Mr.enc,mE,Nat.add_zero,List.getElem?_cons_zero,List.getElem?_cons_succ]at e0 e1 e2 e3 e4 e5 e6 e7 e8
   have _x1:M9B (wr.alloc (.cells #[.int .i64 i,.int .i64 kd,.bool sd,.slice ad ld cd,.slice ap np cp,.bool sk,.slice ak lk ck,.int .i64 vr,.slice ka kn kc] 155)) wr.heap.size i ⟨kd,sd,ad,ld,cd,ap,np,cp,sk,ak,lk,ck,vr,ka,kn,kc⟩:=heap_alloc_new wr _
   have b1:=below_alloc wr (.cells #[.int .i64 i,.int .i64 kd,.bool sd,.slice ad ld cd,.slice ap np cp,.bool sk,.slice ak lk ck,.int .i64 vr,.slice ka kn kc] 155)
   have zm2:M9B ((wr.alloc (.cells #[.int .i64 i,.int .i64 kd,.bool sd,.slice ad ld cd,.slice ap np cp,.bool sk,.slice ak lk ck,.int .i64 vr,.slice ka kn kc] 155)).alloc (.cells #[.int .i64 i,.int .i64 kd,.bool sd,.slice ad ld cd,.slice ap np cp,.bool sk,.slice ak lk ck,.int .i64 vr,.slice ka kn kc] 155)) (wr.alloc (.cells #[.int .i64 i,.int .i64 kd,.bool sd,.slice ad ld cd,.slice ap np cp,.bool sk,.slice ak lk ck,.int .i64 vr,.slice ka kn kc] 155)).heap.size i ⟨kd,sd,ad,ld,cd,ap,np,cp,sk,ak,lk,ck,vr,ka,kn,kc⟩:=heap_alloc_new _ _
   rw[show(wr.alloc (.cells #[.int .i64 i,.int .i64 kd,.bool sd,.slice ad ld cd,.slice ap np cp,.bool sk,.slice ak lk ck,.int .i64 vr,.slice ka kn kc] 155)).heap.size=wr.heap.size+1 from by simp]at zm2
   have b2:=below_alloc (wr.alloc (.cells #[.int .i64 i,.int .i64 kd,.bool sd,.slice ad ld cd,.slice ap np cp,.bool sk,.slice ak lk ck,.int .i64 vr,.slice ka kn kc] 155)) (.cells #[.int .i64 i,.int .i64 kd,.bool sd,.slice ad ld cd,.slice ap np cp,.bool sk,.slice ak lk ck,.int .i64 vr,.slice ka kn kc] 155)
   have hR2:=hide ((hR.out.below b1).below b2)
   have k2:=hide (grow_step b2 (grow_step b1 kr.out))
   have hs2:=k2.out.size
   have hlen:Hid ((rs.take t).length≤n):=hide (by rw[List.length_take];omega)
   replace zm2:=hide zm2
   clear b1 b2 hR kr _x1 h hk hn eb
   by_cases h2:nd.kind=2
   ·obtain rfl:kd=2:=by omega
    have f1: [(⟨i,⟨2,sd,ad,ld,cd,ap,np,cp,sk,ak,lk,ck,vr,ka,kn,kc⟩,nd⟩:Mr)].filter p1= [⟨i,⟨2,sd,ad,ld,cd,ap,np,cp,sk,ak,lk,ck,vr,ka,kn,kc⟩,nd⟩]:=by simp[p1,h2]
    have f2: [(⟨i,⟨2,sd,ad,ld,cd,ap,np,cp,sk,ak,lk,ck,vr,ka,kn,kc⟩,nd⟩:Mr)].filter p2= []:=by simp[p2,h2]
    have f3: [(⟨i,⟨2,sd,ad,ld,cd,ap,np,cp,sk,ak,lk,ck,vr,ka,kn,kc⟩,nd⟩:Mr)].filter p3= []:=by simp[p1,p2,p3,h2]
    replace f1:=hide f1
    replace f2:=hide f2
    replace f3:=hide f3
    clear hkd h2
    go_wp2_with(at_builtin;refine app9 rfl _ _ rfl w.heap.size _ _ _ rfl hR2.out.r1 ⟨i,⟨2,sd,ad,ld,cd,ap,np,cp,sk,ak,lk,ck,vr,ka,kn,kc⟩,nd⟩ (wr.heap.size+1) rfl zm2.out (by have h9:=hlen.out;have h8:=List.length_filter_le p1 (rs.take t);omega) hs2 ?_;intro v' w' ho hg ha)
    have hR3:=hide (hR2.out.step ho hg ha)
    have k3:=hide (k2.out.grown hg hs2 (fun k e=>(hR2.out.r1.lt k e).1))
    clear hR2 ho hg ha zm2 k2
    go_wp2_with fail
    exact⟨⟨t+1,by omega,by go_num,hide (by rw[htk.out,List.filter_append,List.filter_append,List.filter_append,f1.out,f2.out,f3.out,List.append_nil,List.append_nil];exact hR3.out),k3⟩,by simp[intOf];omega⟩
   by_cases h3:nd.kind=3∨nd.kind=4
   ·have h2b:(nd.kind==2)=false:=by simpa using h2
    obtain rfl|rfl:kd=3∨kd=4:=by omega
    ·have h3b:nd.kind=3:=by omega
     have f1: [(⟨i,⟨3,sd,ad,ld,cd,ap,np,cp,sk,ak,lk,ck,vr,ka,kn,kc⟩,nd⟩:Mr)].filter p1= []:=by simp[p1,h3b]
     have f2: [(⟨i,⟨3,sd,ad,ld,cd,ap,np,cp,sk,ak,lk,ck,vr,ka,kn,kc⟩,nd⟩:Mr)].filter p2= [⟨i,⟨3,sd,ad,ld,cd,ap,np,cp,sk,ak,lk,ck,vr,ka,kn,kc⟩,nd⟩]:=by simp[p2,h3b]
     have f3: [(⟨i,⟨3,sd,ad,ld,cd,ap,np,cp,sk,ak,lk,ck,vr,ka,kn,kc⟩,nd⟩:Mr)].filter p3= []:=by simp[p1,p2,p3,h3b]
     replace f1:=hide f1
     replace f2:=hide f2
     replace f3:=hide f3
     clear hkd h2 h3 h2b h3b
     go_wp2_with(at_builtin;refine app9 rfl _ _ rfl w.heap.size _ _ _ rfl hR2.out.r2 ⟨i,⟨3,sd,ad,ld,cd,ap,np,cp,sk,ak,lk,ck,vr,ka,kn,kc⟩,nd⟩ (wr.heap.size+1) rfl zm2.out (by have h9:=hlen.out;have h8:=List.length_filter_le p2 (rs.take t);omega) hs2 ?_;intro v' w' ho hg ha)
     have hR3:=hide ((hR2.out.swap.step ho hg ha).swap)
     have k3:=hide (k2.out.grown hg hs2 (fun k e=>(hR2.out.r2.lt k e).1))
     clear hR2 ho hg ha zm2 k2
     go_wp2_with fail
     exact⟨⟨t+1,by omega,by go_num,hide (by rw[htk.out,List.filter_append,List.filter_append,List.filter_append,f1.out,f2.out,f3.out,List.append_nil,List.append_nil];exact hR3.out),k3⟩,by simp[intOf];omega⟩
    have h3b:nd.kind=4:=by omega
    have f1: [(⟨i,⟨4,sd,ad,ld,cd,ap,np,cp,sk,ak,lk,ck,vr,ka,kn,kc⟩,nd⟩:Mr)].filter p1= []:=by simp[p1,h3b]
    have f2: [(⟨i,⟨4,sd,ad,ld,cd,ap,np,cp,sk,ak,lk,ck,vr,ka,kn,kc⟩,nd⟩:Mr)].filter p2= [⟨i,⟨4,sd,ad,ld,cd,ap,np,cp,sk,ak,lk,ck,vr,ka,kn,kc⟩,nd⟩]:=by simp[p2,h3b]
    have f3: [(⟨i,⟨4,sd,ad,ld,cd,ap,np,cp,sk,ak,lk,ck,vr,ka,kn,kc⟩,nd⟩:Mr)].filter p3= []:=by simp[p1,p2,p3,h3b]
    replace f1:=hide f1
    replace f2:=hide f2
    replace f3:=hide f3
    clear hkd h2 h3 h2b h3b
    go_wp2_with(at_builtin;refine app9 rfl _ _ rfl w.heap.size _ _ _ rfl hR2.out.r2 ⟨i,⟨4,sd,ad,ld,cd,ap,np,cp,sk,ak,lk,ck,vr,ka,kn,kc⟩,nd⟩ (wr.heap.size+1) rfl zm2.out (by have h9:=hlen.out;have h8:=List.length_filter_le p2 (rs.take t);omega) hs2 ?_;intro v' w' ho hg ha)
    have hR3:=hide ((hR2.out.swap.step ho hg ha).swap)
    have k3:=hide (k2.out.grown hg hs2 (fun k e=>(hR2.out.r2.lt k e).1))
    clear hR2 ho hg ha zm2 k2
    go_wp2_with fail
    exact⟨⟨t+1,by omega,by go_num,hide (by rw[htk.out,List.filter_append,List.filter_append,List.filter_append,f1.out,f2.out,f3.out,List.append_nil,List.append_nil];exact hR3.out),k3⟩,by simp[intOf];omega⟩
   have q2:(kd==2)=false:=by simp;omega
   have q3:(kd==3)=false:=by simp;omega
   have q4:(kd==4)=false:=by simp;omega
   have n3: ¬nd.kind=3:=fun e=>h3 (.inl e)
   have n4: ¬nd.kind=4:=fun e=>h3 (.inr e)
   have f1: [(⟨i,⟨kd,sd,ad,ld,cd,ap,np,cp,sk,ak,lk,ck,vr,ka,kn,kc⟩,nd⟩:Mr)].filter p1= []:=by simp[p1,h2]
   have f2: [(⟨i,⟨kd,sd,ad,ld,cd,ap,np,cp,sk,ak,lk,ck,vr,ka,kn,kc⟩,nd⟩:Mr)].filter p2= []:=by simp[p2,n3,n4]
   have f3: [(⟨i,⟨kd,sd,ad,ld,cd,ap,np,cp,sk,ak,lk,ck,vr,ka,kn,kc⟩,nd⟩:Mr)].filter p3= [⟨i,⟨kd,sd,ad,ld,cd,ap,np,cp,sk,ak,lk,ck,vr,ka,kn,kc⟩,nd⟩]:=by simp[p1,p2,p3,h2,n3,n4]
   replace f1:=hide f1
   replace f2:=hide f2
   replace f3:=hide f3
   clear hkd h2 h3 n3 n4
   go_wp2_with(at_builtin;refine app9 rfl _ _ rfl w.heap.size _ _ _ rfl hR2.out.r3 ⟨i,⟨kd,sd,ad,ld,cd,ap,np,cp,sk,ak,lk,ck,vr,ka,kn,kc⟩,nd⟩ (wr.heap.size+1) rfl zm2.out (by have h9:=hlen.out;have h8:=List.length_filter_le p3 (rs.take t);omega) hs2 ?_;intro v' w' ho hg ha)
   have hR3:=hide ((hR2.out.turn.step ho hg ha).turn)
   have k3:=hide (k2.out.grown hg hs2 (fun k e=>(hR2.out.r3.lt k e).1))
   clear hR2 ho hg ha zm2 k2
   go_wp2_with fail
   exact⟨⟨t+1,by omega,by go_num,hide (by rw[htk.out,List.filter_append,List.filter_append,List.filter_append,f1.out,f2.out,f3.out,List.append_nil,List.append_nil];exact hR3.out),k3⟩,by simp[intOf];omega⟩
  obtain rfl:t=n:=by omega
  rw[←hn,List.take_length]at hR
  clear h
  go_wp2_with fail
  refine bodyPost_ret (results_tmp3 rfl _ _ _) rfl ?_
  exact⟨_,_,_,rfl,hR.out,kr.out⟩
end Nt
namespace Nt

theorem infoI9 :(Tryz.prog.info? 3).map (fun i=>(i.zero,i.size,i.bytes))=some (some (.int .i64 0),1,8):=by kernel_rfl
theorem app_ii {w:World}{ops:Array Oper}{rest:List Oper}{o:Oper}{a:Act}{Q:Exit→Act→World→Prop}(hgd:o.guard=none)(s x:Operand)(ho:o.op= .call {callee:=.builtin .append,args:=#[s,x],argTypes:=#[23,23]})(base:Nat)(v:Value)(n:Nat)(xs:List Int)(hs:a.eval s=v)(hown:w.ownsRow base 3 1 v n (xs.map (Value.int .i64)))
  (ad:Option Addr)(m c:Nat)(l:List Int)(hx:a.eval x= .slice ad m c)(hm:0<m)(hI:IL w ad m l)(h63:n+m≤8388608)(hbase:base≤w.heap.size)
  (h: ∀v' w',w'.ownsRow base 3 1 v' (n+m) ((xs++l).map (Value.int .i64))→w.grownBy w' v.ownBlock→(v'.ownBlock=v.ownBlock∨v'.ownBlock=some w.heap.size)→wpList Tryz.prog ops Q rest (a.put o.dst v') w'):wpList Tryz.prog ops Q (o::rest) a w:=by
 obtain⟨i0,hi,hz0,hz1,hz2⟩:=info_parts infoI9
 have hlen:=hI.1
 rcases hI.2 with h0|⟨b,off,rfl,hb,h2⟩
 ·omega
 have hc: ∀j u,(l.map (Value.int .i64))[j]? =some u→w.cell? ((⟨b,off,none⟩:Addr).add j)=some u:=by
  intro j u hu
  obtain⟨hj,rfl⟩:=List.getElem?_eq_some_iff.1 hu
  have hj2:j<l.length:=by simpa using hj
  rw[List.getElem_map,Addr.add_lit]
  exact(h2 j hj2).1
 refine wpList_append_own_at w hgd s x 23 ho base 3 i0 _ 1 8 Tryz.underlying23 hi hz0 hz1 hz2 rfl (by decide) v n (xs.map (Value.int .i64)) hs hown ⟨b,off,none⟩ m c (l.map (Value.int .i64)) hx (by rw[List.length_map,hlen];omega) hc (fun u hu=>by obtain⟨x,_,rfl⟩:=List.mem_map.1 hu;rfl) (by unfold maxLen;omega) o_m hbase ?_
 intro v' w' h1 h2 _ h4
 rw[←List.map_append]at h1
 exact h v' w' h1 h2 h4
structure SpM (w wr:World) (L:List Nd) (bm:Nat) (mv lv:Value) (rs:List Mr) (Sn Lf:List Int) (C:Nat→Prop) (D:DataW Value):Prop where
 nd: ∀m∈rs,m.n=ndI L m.id∧NC C wr m.x m.n 2097152
 mr:wr.ownsRow w.heap.size 155 9 mv rs.length (flat9 rs)
 lr:wr.ownsRow w.heap.size 3 1 lv Lf.length (Lf.map (Value.int .i64))
 mp:wr.ownsMap Tryz.prog 3 unitElem bm Sn.length D
 md: ∀x,I64 x→Maps.has D (.int .i64 x)=decide (x∈Sn)
 ap: ∀b,mv.ownBlock=some b→lv.ownBlock≠some b
 cb: ∀b,C b→b<wr.heap.size∧b≠bm∧mv.ownBlock≠some b∧lv.ownBlock≠some b
 mb:mv.ownBlock≠some bm
 lb:lv.ownBlock≠some bm
 bl:w.heap.size≤bm
 bs:bm<wr.heap.size
 k:Below w.heap.size w wr
 li: ∀x∈Lf,I64 x
variable {w wr w':World}{L:List Nd}{bm:Nat}{mv lv:Value}{rs:List Mr}{Sn Lf:List Int}{C:Nat→Prop}{D:DataW Value}
theorem SpM.grow (h:SpM w wr L bm mv lv rs Sn Lf C D)(k:Below wr.heap.size wr w'):SpM w w' L bm mv lv rs Sn Lf C D:=
 {h with
  nd:=fun m hm=>⟨(h.nd m hm).1,(h.nd m hm).2.move k.size (fun b _ hb=>k.block b hb) fun _ hb _=>hb⟩
  mr:=own_below h.mr k
  lr:=own_below h.lr k
  mp:=h.mp.kept (gb_none k) (by simp)
  cb:=fun b hb=>⟨Nat.lt_of_lt_of_le (h.cb b hb).1 k.size,(h.cb b hb).2⟩
  bs:=Nat.lt_of_lt_of_le h.bs k.size
  k:=grow_step k h.k}
theorem SpM.pop {x:Int}(h:SpM w wr L bm mv lv rs Sn (Lf++ [x]) C D): ∃g cap,lv= .slice (some ⟨g,0,none⟩) (Lf.length+1) cap∧g<wr.heap.size∧wr.cell? ⟨g,Lf.length,none⟩=some (.int .i64 x)∧I64 x∧Lf.length+1≤cap∧SpM w wr L bm mv (.slice (some ⟨g,0,none⟩) Lf.length cap) rs Sn Lf C D:=by
 have hx:=h.li x (by simp)
 have hlr:=h.lr
 rw[List.length_append,List.length_singleton]at hlr
 rcases hlr.2 with⟨_,h0⟩|⟨g,cap,cur,e1,e2,e3,e4,e5,e6,e7⟩
 ·omega
 subst e1
 refine⟨g,cap,rfl,lt_of_block e3,?_,hx,e4,{h with lr:=⟨by simp,.inr ⟨g,cap,cur,rfl,e2,e3,by omega,e5,e6,?_⟩⟩,li:=fun y hy=>h.li y (List.mem_append_left _ hy)}⟩
 ·rw[cell_of_row wr g Lf.length _ _ (0,0) e3]
  have:=congrArg (fun l=>l[Lf.length]?) e7
  simp at this
  rw[this]
 have:=congrArg (List.take Lf.length) e7
 rw[List.take_take]at this
 simp at this
 simpa using this
theorem SpM.seen {x:Int}(h:SpM w wr L bm mv lv rs Sn Lf C D)(hx:I64 x)(hm:w'.ownsMap Tryz.prog 3 unitElem bm (Sn.length+1) (D.put (.int .i64 x) (.agg [])))(hg:wr.grownBy w' (some bm)):SpM w w' L bm mv lv rs (x::Sn) Lf C (D.put (.int .i64 x) (.agg [])):=
 {h with
  nd:=fun m hm=>⟨(h.nd m hm).1,(h.nd m hm).2.move hg.size (fun b hb hl=>hg.block b hl (fun e=>(h.cb b hb).2.1 (Option.some.inj e))) fun _ hb _=>hb⟩
  mr:=h.mr.kept hg (.inr h.mb)
  lr:=h.lr.kept hg (.inr h.lb)
  mp:=hm
  md:=fun y hy=>by
   by_cases e:y=x
   ·subst e
    rw[Maps.has_put_same h.mp.isMap (isKey_i y hx)]
    simp
   rw[Maps.has_put_other (fun e2=>e (by injection e2)),h.md y hy]
   simp[e]
  cb:=fun b hb=>⟨Nat.lt_of_lt_of_le (h.cb b hb).1 hg.size,(h.cb b hb).2⟩
  bs:=Nat.lt_of_lt_of_le h.bs hg.size
  k:=h.k.grown hg h.k.size fun b hb=>by cases hb;exact h.bl}
theorem SpM.more {lv':Value}{l:List Int}(h:SpM w wr L bm mv lv rs Sn Lf C D)(ho:w'.ownsRow w.heap.size 3 1 lv' (Lf.length+l.length) ((Lf++l).map (Value.int .i64)))(hg:wr.grownBy w' lv.ownBlock)(ha:lv'.ownBlock=lv.ownBlock∨lv'.ownBlock=some wr.heap.size)(hl: ∀x∈l,I64 x):SpM w w' L bm mv lv' rs Sn (Lf++l) C D:=by
 have hne: ∀b,b<wr.heap.size→lv.ownBlock≠some b→lv'.ownBlock≠some b:=fun b hb h1 h2=>by
  rcases ha with ha|ha
  ·exact h1 (ha▸h2)
  rw[ha]at h2
  cases h2
  omega
 exact
 {h with
  nd:=fun m hm=>⟨(h.nd m hm).1,(h.nd m hm).2.move hg.size (fun b hb hl=>hg.block b hl (fun e=>(h.cb b hb).2.2.2 e.symm)) fun _ hb _=>hb⟩
  mr:=h.mr.kept hg (by
   cases hm:mv.ownBlock with
   |none=>exact .inl rfl
   |some b=>exact .inr fun e=>h.ap b hm e.symm)
  lr:=by rw[List.length_append];exact ho
  mp:=h.mp.kept hg (fun e=>h.lb e.symm)
  ap:=fun b hb=>hne b (h.mr.lt b hb).2 (h.ap b hb)
  cb:=fun b hb=>⟨Nat.lt_of_lt_of_le (h.cb b hb).1 hg.size,(h.cb b hb).2.1,(h.cb b hb).2.2.1,hne b (h.cb b hb).1 (h.cb b hb).2.2.2⟩
  lb:=hne bm h.bs h.lb
  bs:=Nat.lt_of_lt_of_le h.bs hg.size
  k:=h.k.grown hg h.k.size fun b hb=>(h.lr.lt b hb).1
  li:=fun x hx=>(List.mem_append.1 hx).elim (h.li x) (hl x)}
theorem SpM.put {mv':Value}{m:Mr}{G:Nat→Prop}(h:SpM w wr L bm mv lv rs Sn Lf C D)(hn:m.n=ndI L m.id)(hN:NC G wr m.x m.n 2097152)(hG: ∀b,G b→b<wr.heap.size∧b≠bm∧mv.ownBlock≠some b∧lv.ownBlock≠some b)
  (ho:w'.ownsRow w.heap.size 155 9 mv' (rs.length+1) (flat9 (rs++ [m])))(hg:wr.grownBy w' mv.ownBlock)(ha:mv'.ownBlock=mv.ownBlock∨mv'.ownBlock=some wr.heap.size):SpM w w' L bm mv' lv (rs++ [m]) Sn Lf (fun b=>C b∨G b) D:=by
 have hne: ∀b,b<wr.heap.size→mv.ownBlock≠some b→mv'.ownBlock≠some b:=fun b hb h1 h2=>by
  rcases ha with ha|ha
  ·exact h1 (ha▸h2)
  rw[ha]at h2
  cases h2
  omega
 have hcg: ∀b,C b∨G b→b<wr.heap.size∧b≠bm∧mv.ownBlock≠some b∧lv.ownBlock≠some b:=fun b hb=>hb.elim (h.cb b) (hG b)
 exact
 {h with
  nd:=fun y hy=>(List.mem_append.1 hy).elim (fun hy=>⟨(h.nd y hy).1,(h.nd y hy).2.move hg.size (fun b hb hl=>hg.block b hl (fun e=>(h.cb b hb).2.2.1 e.symm)) fun _ hb _=> .inl hb⟩) fun hy=>by
   rw[List.mem_singleton.1 hy]
   exact⟨hn,hN.move hg.size (fun b hb hl=>hg.block b hl (fun e=>(hG b hb).2.2.1 e.symm)) fun _ hb _=> .inr hb⟩
  mr:=by rw[List.length_append];exact ho
  lr:=h.lr.kept hg (by
   cases hm:lv.ownBlock with
   |none=>exact .inl rfl
   |some b=>exact .inr fun e=>h.ap b e.symm hm)
  mp:=h.mp.kept hg (fun e=>h.mb e.symm)
  ap:=fun b hb hl=>by
   have h1:=(h.lr.lt b hl).2
   exact hne b h1 (fun e=>h.ap b e hl) hb
  cb:=fun b hb=>⟨Nat.lt_of_lt_of_le (hcg b hb).1 hg.size,(hcg b hb).2.1,hne b (hcg b hb).1 (hcg b hb).2.2.1,(hcg b hb).2.2.2⟩
  mb:=hne bm h.bs h.mb
  bs:=Nat.lt_of_lt_of_le h.bs hg.size
  k:=h.k.grown hg h.k.size fun b hb=>(h.mr.lt b hb).1}
end Nt
namespace Nt

def mr0 :Mr:=⟨0,⟨0,false,none,0,0,none,0,0,false,none,0,0,0,none,0,0⟩,⟨0,0,[],0,0,[]⟩⟩
def gm (rs:List Mr)(s:Nat):Mr:=rs.getD s mr0
theorem gm_get {rs:List Mr}{s:Nat}(h:s<rs.length):gm rs s=rs[s]:=by
 unfold gm
 rw[List.getD_eq_getElem?_getD,List.getElem?_eq_getElem h]
 rfl
theorem gm_mem {rs:List Mr}{s:Nat}(h:s<rs.length):gm rs s∈rs:=by rw[gm_get h];exact List.getElem_mem h
def HP (ord:Mr→Mr→Int)(mat:Mr→Mr→Bool)(rs:List Mr)(t:Nat):Prop:=∃a b,a<b∧b<rs.length∧t≤a∧(∀k,a<k→k≤b→ord (gm rs a) (gm rs k)=0)∧mat (gm rs a) (gm rs b)=true
theorem hp_next {ord:Mr→Mr→Int}{mat:Mr→Mr→Bool}{rs:List Mr}{t s:Nat}(hz: ∀k,t<k→k≤t+s→ord (gm rs t) (gm rs k)=0∧mat (gm rs t) (gm rs k)=false)(he:t+s+1=rs.length∨ord (gm rs t) (gm rs (t+s+1))≠0):HP ord mat rs t↔HP ord mat rs (t+1):=by
 constructor
 ·rintro⟨a,b,hab,hb,hta,h1,h2⟩
  refine⟨a,b,hab,hb,?_,h1,h2⟩
  rcases Nat.lt_or_ge t a with h|h
  ·exact h
  obtain rfl:a=t:=by omega
  exfalso
  by_cases hbs:b≤a+s
  ·rw[(hz b hab hbs).2]at h2
   cases h2
  rcases he with he|he
  ·omega
  exact he (h1 (a+s+1) o_m o_m)
 rintro⟨a,b,hab,hb,hta,h1,h2⟩
 exact⟨a,b,hab,hb,by omega,h1,h2⟩

theorem hasPair_n {w:World}{base n K1 K2:Nat}{c1 c2:Array Value}{v:Value}{rs:List Mr}{ord:Mr→Mr→Int}{mat:Mr→Mr→Bool}(h:w.ownsRow base 155 9 v n (flat9 rs))(hn:rs.length=n)(hb:n≤1048000)
  (eg1: ∀args w,(callFunc K1 args).run Tryz.prog w= .ok (.enter K1 args) w)(eg2: ∀args w,(callFunc K2 args).run Tryz.prog w= .ok (.enter K2 args) w)
  (h1: ∀w' (x y:Mr),x∈rs→y∈rs→Below w.heap.size w w'→Calls Tryz.prog K1 (#[.agg (mE x.id x.x),.agg (mE y.id y.x)]++c1) w' fun e w''=>e= .returned (.int .i64 (ord x y))∧Below w'.heap.size w' w'')
  (h2: ∀w' (x y:Mr),x∈rs→y∈rs→Below w.heap.size w w'→Calls Tryz.prog K2 (#[.agg (mE x.id x.x),.agg (mE y.id y.x)]++c2) w' fun e w''=>e= .returned (.bool (mat x y))∧Below w'.heap.size w' w''):
  Calls Tryz.prog 157 #[v,.func (.func K1) #[] c1,.func (.func K2) #[] c2] w fun e w'=> ∃b,e= .returned (.bool b)∧(b=true↔HP ord mat rs 0)∧Below w.heap.size w w':=by
 have hcy:Hid (∀s,s<n→∃g cap,v= .slice (some ⟨g,0,none⟩) n cap∧g<w.heap.size∧n≤cap∧∀w',Below w.heap.size w w'→∀j,j<9→w'.cell? ⟨g,s*9+j,none⟩=(gm rs s).enc[j]?):=hide fun s hs=>by
  rw[gm_get o_m]
  obtain⟨g,cap,e,hg,hc⟩:=row9_cell h hn hs
  refine⟨g,cap,e,hg,?_,fun w' k j hj=>(k.cell (p:=⟨g,_,none⟩) hg).trans (hc j hj)⟩
  rcases h.2 with⟨_,h0⟩|⟨g',cap',cur,e1,_,e3,h1,_⟩
  ·omega
  rw[e]at e1
  cases e1
  exact h1
 have hC1:Hid (∀t s w',t<n→s<n→Below w.heap.size w w'→Calls Tryz.prog K1 (#[.agg (mE (gm rs t).id (gm rs t).x),.agg (mE (gm rs s).id (gm rs s).x)]++c1) w' fun e w''=>e= .returned (.int .i64 (ord (gm rs t) (gm rs s)))∧Below w'.heap.size w' w''):=hide fun t s w' ht hs k=>h1 w' _ _ (gm_mem o_m) (gm_mem o_m) k
 have hC2:Hid (∀t s w',t<n→s<n→Below w.heap.size w w'→Calls Tryz.prog K2 (#[.agg (mE (gm rs t).id (gm rs t).x),.agg (mE (gm rs s).id (gm rs s).x)]++c2) w' fun e w''=>e= .returned (.bool (mat (gm rs t) (gm rs s)))∧Below w'.heap.size w' w''):=hide fun t s w' ht hs k=>h2 w' _ _ (gm_mem o_m) (gm_mem o_m) k
 have hend:Hid (¬HP ord mat rs n):=hide fun⟨a,b,h3,h4,h5,_⟩=>by omega
 obtain⟨av,cv,rfl⟩:=row9_form h
 clear h h1 h2
 replace hn:=hide hn
 go_enter Tryz.func157,Tryz.ntmps157
 go_wp2_with fail
 go_step3
 go_wp2_with fail
 go_step3
 go_wp2_with fail
 go_loopw [7,14] (fun f q wr=> ∃t:Nat,t≤n∧f= .bool false∧q= .int .i64 t∧Hid (HP ord mat rs 0↔HP ord mat rs t)∧Hid (Below w.heap.size w wr)) (fun _ q _=>n-(intOf q).toNat)
 case atStart=>exact⟨0,Nat.zero_le _,rfl,rfl,hide Iff.rfl,hide (Below.refl _ _)⟩
 case round=>
  obtain⟨t,ht,rfl,rfl,hP,kr⟩:=hrel
  by_cases htn:t<n
  ·obtain⟨g,cap,hsl,hgw,hcap,hcell⟩:=hcy.out t htn
   injection hsl with ea eb ec
   subst ea ec
   clear eb
   have hc:=hcell wr kr.out
   have e0:=hc 0 (by decide)
   have e1:=hc 1 (by decide)
   have e2:=hc 2 (by decide)
   have e3:=hc 3 (by decide)
   have e4:=hc 4 (by decide)
   have e5:=hc 5 (by decide)
   have e6:=hc 6 (by decide)
   have e7:=hc 7 (by decide)
   have e8:=hc 8 (by decide)
   clear hc hcell
   have hnx:Hid (∀s,(∀k,t<k→k≤t+s→ord (gm rs t) (gm rs k)=0∧mat (gm rs t) (gm rs k)=false)→(t+s+1=n∨ord (gm rs t) (gm rs (t+s+1))≠0)→(HP ord mat rs 0↔HP ord mat rs (t+1))):=hide fun s hz he=>hP.out.trans (hp_next hz (he.imp (fun e=>e.trans hn.out.symm) id))
   have hyes:Hid (∀s,t+s+1<n→(∀k,t<k→k≤t+s→ord (gm rs t) (gm rs k)=0∧mat (gm rs t) (gm rs k)=false)→ord (gm rs t) (gm rs (t+s+1))=0→mat (gm rs t) (gm rs (t+s+1))=true→HP ord mat rs 0):=hide fun s hs hz h3 h4=>hP.out.2 ⟨t,t+s+1,by omega,by have:=hn.out;omega,Nat.le_refl _,fun k h5 h6=>by
    by_cases h7:k≤t+s
    ·exact(hz k h5 h7).1
    obtain rfl:k=t+s+1:=by omega
    exact h3,h4⟩
   have hD1:Hid (∀s w',s<n→Below w.heap.size w w'→Calls Tryz.prog K1 (#[.agg (mE (gm rs t).id (gm rs t).x),.agg (mE (gm rs s).id (gm rs s).x)]++c1) w' fun e w''=>e= .returned (.int .i64 (ord (gm rs t) (gm rs s)))∧Below w'.heap.size w' w''):=hide fun s w' hs k=>hC1.out t s w' htn hs k
   have hD2:Hid (∀s w',s<n→Below w.heap.size w w'→Calls Tryz.prog K2 (#[.agg (mE (gm rs t).id (gm rs t).x),.agg (mE (gm rs s).id (gm rs s).x)]++c2) w' fun e w''=>e= .returned (.bool (mat (gm rs t) (gm rs s)))∧Below w'.heap.size w' w''):=hide fun s w' hs k=>hC2.out t s w' htn hs k
   generalize gm rs t=mx at*
   obtain⟨i,⟨kd1,sd1,ad1,ld1,cd1,ap1,np1,cp1,sk1,ak1,lk1,ck1,vr1,ka1,kn1,kc1⟩,nx⟩:=mx
   simp only[Mr.enc,mE,Nat.add_zero,List.getElem?_cons_zero,List.getElem?_cons_succ]at e0 e1 e2 e3 e4 e5 e6 e7 e8
   have b1:=below_alloc wr (.cells #[.int .i64 i,.int .i64 kd1,.bool sd1,.slice ad1 ld1 cd1,.slice ap1 np1 cp1,.bool sk1,.slice ak1 lk1 ck1,.int .i64 vr1,.slice ka1 kn1 kc1] 155)
   have k1:=hide (grow_step b1 kr.out)
   have x1:Hid (M9B (wr.alloc (.cells #[.int .i64 i,.int .i64 kd1,.bool sd1,.slice ad1 ld1 cd1,.slice ap1 np1 cp1,.bool sk1,.slice ak1 lk1 ck1,.int .i64 vr1,.slice ka1 kn1 kc1] 155)) wr.heap.size i ⟨kd1,sd1,ad1,ld1,cd1,ap1,np1,cp1,sk1,ak1,lk1,ck1,vr1,ka1,kn1,kc1⟩):=hide (heap_alloc_new wr _)
   clear b1
   by_cases hcv:t+1=cv
   ·have hn2:=hide (hnx.out 0 (fun k h3 h4=>by omega) (.inl o_m))
    obtain rfl:n=t+1:=by omega
    subst hcv
    clear hnx hyes hD1 hD2
    go_wp2_with fail
    go_loopw [7,24] (fun f q wi=>f= .bool false∧q= .int .i64 0∧Hid (Below w.heap.size w wi)) (fun _ _ _=>0)
    case atStart=>exact⟨rfl,rfl,k1⟩
    case round=>
     obtain⟨rfl,rfl,ki⟩:=hrel
     go_wp2_with fail
     exact⟨⟨t+1,by omega,rfl,by go_num,hn2,ki⟩,by simp[intOf]⟩
   have hcv2:t+1<cv:=by omega
   clear hcv
   go_wp2_with fail
   generalize wr.alloc (.cells #[.int .i64 i,.int .i64 kd1,.bool sd1,.slice ad1 ld1 cd1,.slice ap1 np1 cp1,.bool sk1,.slice ak1 lk1 ck1,.int .i64 vr1,.slice ka1 kn1 kc1] 155)=wa at*
   generalize hpp:wr.heap.size=p at*
   replace hpp:=hide hpp
   go_loopw [7,24] (fun f q wi=> ∃s:Nat,t+s+1≤n∧f= .bool false∧q= .int .i64 s∧Hid (∀k,t<k→k≤t+s→ord ⟨i,⟨kd1,sd1,ad1,ld1,cd1,ap1,np1,cp1,sk1,ak1,lk1,ck1,vr1,ka1,kn1,kc1⟩,nx⟩ (gm rs k)=0∧mat ⟨i,⟨kd1,sd1,ad1,ld1,cd1,ap1,np1,cp1,sk1,ak1,lk1,ck1,vr1,ka1,kn1,kc1⟩,nx⟩ (gm rs k)=false)∧Hid (Below w.heap.size w wi)∧Hid (M9B wi p i ⟨kd1,sd1,ad1,ld1,cd1,ap1,np1,cp1,sk1,ak1,lk1,ck1,vr1,ka1,kn1,kc1⟩)) (fun _ q _=>n-(intOf q).toNat)
   case atStart=>exact⟨0,by omega,rfl,rfl,hide (fun k h3 h4=>by omega),k1,x1⟩
   case round=>
    clear k1 x1 e0 e1 e2 e3 e4 e5 e6 e7 e8 kr
    obtain⟨s,hs,rfl,rfl,hz,ki,xi⟩:=hrel
    by_cases hsn:t+s+1<n
    ·obtain⟨g',cap',hsl,_,_,hyc'⟩:=hcy.out (t+s+1) hsn
     injection hsl with ea eb ec
     injection ea with ea
     injection ea with ea
     subst ea
     have hyc:=hyc' wr ki.out
     rw[show(t+s+1)*9=(t+1)*9+s*9 by omega]at hyc
     have f0:=hyc 0 (by decide)
     have f1:=hyc 1 (by decide)
     have f2:=hyc 2 (by decide)
     have f3:=hyc 3 (by decide)
     have f4:=hyc 4 (by decide)
     have f5:=hyc 5 (by decide)
     have f6:=hyc 6 (by decide)
     have f7:=hyc 7 (by decide)
     have f8:=hyc 8 (by decide)
     clear hyc hyc' eb ec
     have hD:=hide (hD1.out (t+s+1))
     have hE:=hide (hD2.out (t+s+1))
     have hnx1:=hide (fun h3=>hnx.out s hz.out (.inr h3))
     have hyes1:=hide (hyes.out s hsn hz.out)
     have hzs:Hid (ord ⟨i,⟨kd1,sd1,ad1,ld1,cd1,ap1,np1,cp1,sk1,ak1,lk1,ck1,vr1,ka1,kn1,kc1⟩,nx⟩ (gm rs (t+s+1))=0→mat ⟨i,⟨kd1,sd1,ad1,ld1,cd1,ap1,np1,cp1,sk1,ak1,lk1,ck1,vr1,ka1,kn1,kc1⟩,nx⟩ (gm rs (t+s+1))=false→∀k,t<k→k≤t+(s+1)→ord ⟨i,⟨kd1,sd1,ad1,ld1,cd1,ap1,np1,cp1,sk1,ak1,lk1,ck1,vr1,ka1,kn1,kc1⟩,nx⟩ (gm rs k)=0∧mat ⟨i,⟨kd1,sd1,ad1,ld1,cd1,ap1,np1,cp1,sk1,ak1,lk1,ck1,vr1,ka1,kn1,kc1⟩,nx⟩ (gm rs k)=false):=hide fun h3 h4 k h5 h6=>by
      by_cases h7:k≤t+s
      ·exact hz.out k h5 h7
      obtain rfl:k=t+s+1:=by omega
      exact⟨h3,h4⟩
     generalize gm rs (t+s+1)=my at*
     obtain⟨j,⟨kd2,sd2,ad2,ld2,cd2,ap2,np2,cp2,sk2,ak2,lk2,ck2,vr2,ka2,kn2,kc2⟩,ny⟩:=my
     simp only[Mr.enc,mE,Nat.add_zero,List.getElem?_cons_zero,List.getElem?_cons_succ]at f0 f1 f2 f3 f4 f5 f6 f7 f8
     have b2:=below_alloc wr (.cells #[.int .i64 j,.int .i64 kd2,.bool sd2,.slice ad2 ld2 cd2,.slice ap2 np2 cp2,.bool sk2,.slice ak2 lk2 ck2,.int .i64 vr2,.slice ka2 kn2 kc2] 155)
     have k2:=hide (grow_step b2 ki.out)
     have x2:=hide (xi.out.below b2)
     have y2:Hid (M9B (wr.alloc (.cells #[.int .i64 j,.int .i64 kd2,.bool sd2,.slice ad2 ld2 cd2,.slice ap2 np2 cp2,.bool sk2,.slice ak2 lk2 ck2,.int .i64 vr2,.slice ka2 kn2 kc2] 155)) wr.heap.size j ⟨kd2,sd2,ad2,ld2,cd2,ap2,np2,cp2,sk2,ak2,lk2,ck2,vr2,ka2,kn2,kc2⟩):=hide (heap_alloc_new wr _)
     have hDc:=hide (hD.out (wr.alloc (.cells #[.int .i64 j,.int .i64 kd2,.bool sd2,.slice ad2 ld2 cd2,.slice ap2 np2 cp2,.bool sk2,.slice ak2 lk2 ck2,.int .i64 vr2,.slice ka2 kn2 kc2] 155)) hsn k2.out)
     generalize hov:ord ⟨i,⟨kd1,sd1,ad1,ld1,cd1,ap1,np1,cp1,sk1,ak1,lk1,ck1,vr1,ka1,kn1,kc1⟩,nx⟩ ⟨j,⟨kd2,sd2,ad2,ld2,cd2,ap2,np2,cp2,sk2,ak2,lk2,ck2,vr2,ka2,kn2,kc2⟩,ny⟩=ov at*
     generalize hmv:mat ⟨i,⟨kd1,sd1,ad1,ld1,cd1,ap1,np1,cp1,sk1,ak1,lk1,ck1,vr1,ka1,kn1,kc1⟩,nx⟩ ⟨j,⟨kd2,sd2,ad2,ld2,cd2,ap2,np2,cp2,sk2,ak2,lk2,ck2,vr2,ka2,kn2,kc2⟩,ny⟩=mv at*
     clear hov hmv b2 hD hnx hyes hz
     simp only[mE]at hDc hE
     have u0:(wr.alloc (.cells #[.int .i64 j,.int .i64 kd2,.bool sd2,.slice ad2 ld2 cd2,.slice ap2 np2 cp2,.bool sk2,.slice ak2 lk2 ck2,.int .i64 vr2,.slice ka2 kn2 kc2] 155)).cell? ⟨p,0,none⟩=some (.int .i64 i):=x2.out.c 0
     have u1:(wr.alloc (.cells #[.int .i64 j,.int .i64 kd2,.bool sd2,.slice ad2 ld2 cd2,.slice ap2 np2 cp2,.bool sk2,.slice ak2 lk2 ck2,.int .i64 vr2,.slice ka2 kn2 kc2] 155)).cell? ⟨p,1,none⟩=some (.int .i64 kd1):=x2.out.c 1
     have u2:(wr.alloc (.cells #[.int .i64 j,.int .i64 kd2,.bool sd2,.slice ad2 ld2 cd2,.slice ap2 np2 cp2,.bool sk2,.slice ak2 lk2 ck2,.int .i64 vr2,.slice ka2 kn2 kc2] 155)).cell? ⟨p,2,none⟩=some (.bool sd1):=x2.out.c 2
     have u3:(wr.alloc (.cells #[.int .i64 j,.int .i64 kd2,.bool sd2,.slice ad2 ld2 cd2,.slice ap2 np2 cp2,.bool sk2,.slice ak2 lk2 ck2,.int .i64 vr2,.slice ka2 kn2 kc2] 155)).cell? ⟨p,3,none⟩=some (.slice ad1 ld1 cd1):=x2.out.c 3
     have u4:(wr.alloc (.cells #[.int .i64 j,.int .i64 kd2,.bool sd2,.slice ad2 ld2 cd2,.slice ap2 np2 cp2,.bool sk2,.slice ak2 lk2 ck2,.int .i64 vr2,.slice ka2 kn2 kc2] 155)).cell? ⟨p,4,none⟩=some (.slice ap1 np1 cp1):=x2.out.c 4
     have u5:(wr.alloc (.cells #[.int .i64 j,.int .i64 kd2,.bool sd2,.slice ad2 ld2 cd2,.slice ap2 np2 cp2,.bool sk2,.slice ak2 lk2 ck2,.int .i64 vr2,.slice ka2 kn2 kc2] 155)).cell? ⟨p,5,none⟩=some (.bool sk1):=x2.out.c 5
     have u6:(wr.alloc (.cells #[.int .i64 j,.int .i64 kd2,.bool sd2,.slice ad2 ld2 cd2,.slice ap2 np2 cp2,.bool sk2,.slice ak2 lk2 ck2,.int .i64 vr2,.slice ka2 kn2 kc2] 155)).cell? ⟨p,6,none⟩=some (.slice ak1 lk1 ck1):=x2.out.c 6
     have u7:(wr.alloc (.cells #[.int .i64 j,.int .i64 kd2,.bool sd2,.slice ad2 ld2 cd2,.slice ap2 np2 cp2,.bool sk2,.slice ak2 lk2 ck2,.int .i64 vr2,.slice ka2 kn2 kc2] 155)).cell? ⟨p,7,none⟩=some (.int .i64 vr1):=x2.out.c 7
     have u8:(wr.alloc (.cells #[.int .i64 j,.int .i64 kd2,.bool sd2,.slice ad2 ld2 cd2,.slice ap2 np2 cp2,.bool sk2,.slice ak2 lk2 ck2,.int .i64 vr2,.slice ka2 kn2 kc2] 155)).cell? ⟨p,8,none⟩=some (.slice ka1 kn1 kc1):=x2.out.c 8
     have hlt:(s:Int)<((n-(t+1):Nat):Int):=by omega
     go_wp2_with fail
     refine hDc.out.mono ?_
     rintro e w3 ⟨rfl,k3⟩
     have k23:=hide (grow_step k3 k2.out)
     clear hDc k2 u0 u1 u2 u3 u4 u5 u6 u7 u8 f0 f1 f2 f3 f4 f5 f6 f7 f8
     by_cases ho:ov=0
     ·have x3:=hide (x2.out.below k3)
      have y3:=hide (y2.out.below k3)
      have u0:w3.cell? ⟨p,0,none⟩=some (.int .i64 i):=x3.out.c 0
      have u1:w3.cell? ⟨p,1,none⟩=some (.int .i64 kd1):=x3.out.c 1
      have u2:w3.cell? ⟨p,2,none⟩=some (.bool sd1):=x3.out.c 2
      have u3:w3.cell? ⟨p,3,none⟩=some (.slice ad1 ld1 cd1):=x3.out.c 3
      have u4:w3.cell? ⟨p,4,none⟩=some (.slice ap1 np1 cp1):=x3.out.c 4
      have u5:w3.cell? ⟨p,5,none⟩=some (.bool sk1):=x3.out.c 5
      have u6:w3.cell? ⟨p,6,none⟩=some (.slice ak1 lk1 ck1):=x3.out.c 6
      have u7:w3.cell? ⟨p,7,none⟩=some (.int .i64 vr1):=x3.out.c 7
      have u8:w3.cell? ⟨p,8,none⟩=some (.slice ka1 kn1 kc1):=x3.out.c 8
      have v0:w3.cell? ⟨wr.heap.size,0,none⟩=some (.int .i64 j):=y3.out.c 0
      have v1:w3.cell? ⟨wr.heap.size,1,none⟩=some (.int .i64 kd2):=y3.out.c 1
      have v2:w3.cell? ⟨wr.heap.size,2,none⟩=some (.bool sd2):=y3.out.c 2
      have v3:w3.cell? ⟨wr.heap.size,3,none⟩=some (.slice ad2 ld2 cd2):=y3.out.c 3
      have v4:w3.cell? ⟨wr.heap.size,4,none⟩=some (.slice ap2 np2 cp2):=y3.out.c 4
      have v5:w3.cell? ⟨wr.heap.size,5,none⟩=some (.bool sk2):=y3.out.c 5
      have v6:w3.cell? ⟨wr.heap.size,6,none⟩=some (.slice ak2 lk2 ck2):=y3.out.c 6
      have v7:w3.cell? ⟨wr.heap.size,7,none⟩=some (.int .i64 vr2):=y3.out.c 7
      have v8:w3.cell? ⟨wr.heap.size,8,none⟩=some (.slice ka2 kn2 kc2):=y3.out.c 8
      have hEc:=hide (hE.out w3 hsn k23.out)
      have hyes2:=hide (hyes1.out ho)
      have hzs2:=hide (hzs.out ho)
      subst ho
      clear k3 x2 y2 hE hyes1 hzs hnx1
      go_wp2_with fail
      refine hEc.out.mono ?_
      rintro e w4 ⟨rfl,k4⟩
      have k24:=hide (grow_step k4 k23.out)
      have x4:=hide (x3.out.below k4)
      clear u0 u1 u2 u3 u4 u5 u6 u7 u8 v0 v1 v2 v3 v4 v5 v6 v7 v8 hEc k4 k23 x3 y3
      cases mv with
      |true=>
       have hyy:=hide (hyes2.out rfl)
       clear hyes2 hzs2
       go_wp2_with fail
       rw[Exit.noGoto_ret]
       go_ret
       exact⟨true,rfl,⟨fun _=>hyy.out,fun _=>rfl⟩,k24.out⟩
      |false=>
       have hzz:=hide (hzs2.out rfl)
       clear hyes2 hzs2
       go_wp2_with fail
       exact⟨⟨s+1,by omega,rfl,by go_num,hzz,k24,x4⟩,by simp[intOf];omega⟩
     have hn2:=hide (hnx1.out ho)
     have hob:(ov !=0)=true:=by simpa using ho
     clear x2 y2 hE hyes1 hzs hnx1 k3
     go_wp2_with fail
     exact⟨⟨t+1,by omega,rfl,by go_num,hn2,k23⟩,by simp[intOf];omega⟩
    have hsn2:t+s+1=n:=by omega
    have hn2:=hide (hnx.out s hz.out (.inl hsn2))
    have hlt: ¬(s:Int)<((n-(t+1):Nat):Int):=by omega
    clear hnx hyes hD1 hD2
    go_wp2_with fail
    exact⟨⟨t+1,by omega,rfl,by go_num,hn2,ki⟩,by simp[intOf];omega⟩
  obtain rfl:t=n:=by omega
  have hno: ¬HP ord mat rs 0:=fun h3=>hend.out (hP.out.1 h3)
  clear hcy hC1 hC2
  go_wp2_with fail
  first|go_ret|(rw[Exit.noGoto_ret];go_ret)
  exact⟨false,rfl,⟨fun h3=>(by cases h3),fun h3=>absurd h3 hno⟩,kr.out⟩
end Nt
namespace Nt

structure RB9 (w:World) (g cap:Nat) (rs:List Mr) (cur:Array Value):Prop where
 b:w.heap[g]? =some (.cells cur 155 (0,0))
 s:cur.size=cap*9
 l:rs.length≤cap
 r:cur.toList.take (rs.length*9)=flat9 rs
theorem RB9.get {w:World}{g cap:Nat}{rs:List Mr}{cur:Array Value}(h:RB9 w g cap rs cur){i c:Nat}(hi:i<rs.length)(hc:c<9):cur[i*9+c]? =rs[i].enc[c]?:=by
 rw[←flat9_get rs i c hi hc,←h.r,List.getElem?_take,if_pos o_m]
 simp
theorem RB9.cell {w:World}{g cap:Nat}{rs:List Mr}{cur:Array Value}(h:RB9 w g cap rs cur){i c:Nat}(hi:i<rs.length)(hc:c<9):w.cell? ⟨g,i*9+c,none⟩=rs[i].enc[c]? :=
 (cell_of_row w g (i*9+c) _ _ (0,0) h.b).trans (h.get hi hc)
theorem RB9.below {w w':World}{g cap:Nat}{rs:List Mr}{cur:Array Value}(h:RB9 w g cap rs cur)(k:Below w.heap.size w w'):RB9 w' g cap rs cur:=⟨(k.block g (lt_of_block h.b)).trans h.b,h.s,h.l,h.r⟩
theorem rb9_of {cur:Array Value}{rs:List Mr}(h: ∀i (hi:i<rs.length) c,c<9→cur[i*9+c]? =rs[i].enc[c]?):cur.toList.take (rs.length*9)=flat9 rs:=by
 apply List.ext_getElem?
 intro j
 by_cases hj:j<rs.length*9
 ·have h1:=h (j / 9) o_m (j%9) (Nat.mod_lt _ (by decide))
  have h2:=flat9_get rs (j / 9) (j%9) o_m (Nat.mod_lt _ (by decide))
  rw[show j / 9*9+j%9=j by omega]at h1 h2
  rw[List.getElem?_take,if_pos hj,h2,←h1]
  simp
 rw[List.getElem?_take,if_neg hj,List.getElem?_eq_none (by rw[flat9_length];omega)]
def set9 (cur:Array Value)(k:Nat)(m:Mr):Array Value:=
 ((((((((cur.setIfInBounds (k*9) (.int .i64 m.id)).setIfInBounds (k*9+1) (.int .i64 m.x.kd)).setIfInBounds (k*9+2) (.bool m.x.sd)).setIfInBounds (k*9+3) (.slice m.x.ad m.x.ld m.x.cd)).setIfInBounds (k*9+4) (.slice m.x.ap m.x.np m.x.cp)).setIfInBounds (k*9+5) (.bool m.x.sk)).setIfInBounds (k*9+6) (.slice m.x.ak m.x.lk m.x.ck)).setIfInBounds (k*9+7) (.int .i64 m.x.vr)).setIfInBounds (k*9+8) (.slice m.x.ka m.x.kn m.x.kc)
theorem set9_size (cur:Array Value)(k:Nat)(m:Mr):(set9 cur k m).size=cur.size:=by simp[set9]
theorem set9_other (cur:Array Value)(k:Nat)(m:Mr)(j:Nat)(h:j<k*9∨k*9+9≤j):(set9 cur k m)[j]? =cur[j]?:=by
 unfold set9
 simp only[Array.getElem?_setIfInBounds]
 rw[if_neg o_m,if_neg o_m,if_neg o_m,if_neg o_m,if_neg o_m,if_neg o_m,if_neg o_m,if_neg o_m,if_neg o_m]
theorem set9_here (cur:Array Value)(k:Nat)(m:Mr)(hk:k*9+9≤cur.size): ∀c,c<9→(set9 cur k m)[k*9+c]? =m.enc[c]?:=by
 intro c hc
 unfold set9
 simp only[Array.getElem?_setIfInBounds,Array.size_setIfInBounds]
 rcases c with _|_|_|_|_|_|_|_|_|c
 all_goals first|omega|(simp[Mr.enc,mE];omega)
def wset9 (w:World)(g k:Nat)(m:Mr):World:=
 ((((((((w.setCell ⟨g,k*9,none⟩ (.int .i64 m.id)).setCell ⟨g,k*9+1,none⟩ (.int .i64 m.x.kd)).setCell ⟨g,k*9+2,none⟩ (.bool m.x.sd)).setCell ⟨g,k*9+3,none⟩ (.slice m.x.ad m.x.ld m.x.cd)).setCell ⟨g,k*9+4,none⟩ (.slice m.x.ap m.x.np m.x.cp)).setCell ⟨g,k*9+5,none⟩ (.bool m.x.sk)).setCell ⟨g,k*9+6,none⟩ (.slice m.x.ak m.x.lk m.x.ck)).setCell ⟨g,k*9+7,none⟩ (.int .i64 m.x.vr)).setCell ⟨g,k*9+8,none⟩ (.slice m.x.ka m.x.kn m.x.kc)
theorem RB9.set {w:World}{g cap:Nat}{rs:List Mr}{cur:Array Value}(h:RB9 w g cap rs cur){k:Nat}(hk:k<rs.length)(m:Mr):RB9 (wset9 w g k m) g cap (rs.set k m) (set9 cur k m):=by
 have hl:=h.l
 have hs:=h.s
 refine⟨?_,by rw[set9_size,hs],by rw[List.length_set];exact hl,rb9_of fun i hi c hc=> ?_⟩
 ·exact heap_setCell_same _ g _ _ _ _ (heap_setCell_same _ g _ _ _ _ (heap_setCell_same _ g _ _ _ _ (heap_setCell_same _ g _ _ _ _ (heap_setCell_same _ g _ _ _ _ (heap_setCell_same _ g _ _ _ _ (heap_setCell_same _ g _ _ _ _ (heap_setCell_same _ g _ _ _ _ (heap_setCell_same _ g _ _ _ _ h.b))))))))
 rw[List.length_set]at hi
 by_cases e:i=k
 ·subst e
  rw[set9_here cur i m o_m c hc,List.getElem_set_self]
 rw[set9_other cur k m _ o_m,h.get hi hc,List.getElem_set_ne (fun e'=>e e'.symm)]
theorem wset9_grown (w:World)(g k:Nat)(m:Mr):w.grownBy (wset9 w g k m) (some g):=
 gb_trans (gb_trans (gb_trans (gb_trans (gb_trans (gb_trans (gb_trans (gb_trans (gb_set w g _ _) (gb_set _ g _ _)) (gb_set _ g _ _)) (gb_set _ g _ _)) (gb_set _ g _ _)) (gb_set _ g _ _)) (gb_set _ g _ _)) (gb_set _ g _ _)) (gb_set _ g _ _)
end Nt
end Go.Proofs.YtllfelooahplhaaGreatDoor

namespace Go.Proofs.YtllfelooahplhaaGreatDoor
open Tm At
namespace Nt
open Od

def dd1 (q:Mr→Mr→Bool):Mr→List Mr→List Mr
 |_,[]=> []
 |p,y::t=>if q y p=true then dd1 q y t else y::dd1 q y t
def dd (q:Mr→Mr→Bool):List Mr→List Mr
 | []=> []
 |x::t=>x::dd1 q x t
theorem dd1_cons {q:Mr→Mr→Bool}{p y:Mr}{t:List Mr}:dd1 q p (y::t)=if q y p=true then dd1 q y t else y::dd1 q y t:=rfl
theorem dd1_snoc (q:Mr→Mr→Bool)(y:Mr): ∀(l:List Mr) (p:Mr),dd1 q p (l++ [y])=dd1 q p l++if q y ((p::l).getLast (by simp))=true then []else [y]
 | [],p=>by
  show(if q y p=true then []else [y])= []++if q y p=true then []else [y]
  rw[List.nil_append]
 |x::l,p=>by
  have h:=dd1_snoc q y l x
  have e:(p::x::l).getLast (by simp)=(x::l).getLast (by simp):=by simp
  rw[e]
  simp only[List.cons_append,dd1]
  split
  ·exact h
  rw[h,List.cons_append]
theorem dd_take {q:Mr→Mr→Bool}{rs:List Mr}{e:Nat}(he:e+1<rs.length):dd q (rs.take (e+2))=dd q (rs.take (e+1))++if q rs[e+1] (rs[e]'o_m)=true then []else [rs[e+1]]:=by
 cases rs with
 |nil=>simp at he
 |cons x t=>
  have h1:(x::t).take (e+2)=x::(t.take e++ [t[e]'(by simpa using he)]):=by
   rw[List.take_succ_cons,List.take_succ_eq_append_getElem (by simpa using he)]
  have h2:(x::t).take (e+1)=x::t.take e:=List.take_succ_cons
  rw[h1,h2]
  simp only[dd]
  rw[dd1_snoc,List.cons_append]
  congr 2
  have h3:(x::t.take e).getLast (by simp)=(x::t)[e]'o_m:=by
   rw[List.getLast_eq_getElem]
   have hl:(x::t.take e).length-1=e:=by
    simp only[List.length_cons,List.length_take]at he ⊢
    omega
   simp only[hl]
   cases e with
   |zero=>rfl
   |succ e=>
    simp only[List.getElem_cons_succ,List.getElem_take]
  rw[h3]
  rfl
end Nt
namespace Nt
open Od

theorem dd1_sub (q:Mr→Mr→Bool): ∀(l:List Mr) (p:Mr),(dd1 q p l).Sublist l
 | [],_=>List.Sublist.slnil
 |y::t,p=>by
  rw[dd1_cons]
  split
  ·exact(dd1_sub q t y).cons y
  exact(dd1_sub q t y).cons_cons y
theorem dd_sub (q:Mr→Mr→Bool)(l:List Mr):(dd q l).Sublist l:=by
 cases l with
 |nil=>exact List.Sublist.slnil
 |cons x t=>exact(dd1_sub q t x).cons_cons x

theorem dd1_pw {P:Mr→Mr→Int}(hP:Lin P){q:Mr→Mr→Bool}(hq: ∀x y,q x y=true↔P y x=0): ∀(l:List Mr) (p:Mr),(p::l).Pairwise (fun x y=>P x y≤0)→(p::dd1 q p l).Pairwise (fun x y=>P x y<0)
 | [],p=>fun _=>List.pairwise_singleton _ _
 |y::t,p=>fun h=>by
  have h1:=List.pairwise_cons.1 h
  have h2:=List.pairwise_cons.1 h1.2
  have ih:=dd1_pw hP hq t y h1.2
  have ih1:=List.pairwise_cons.1 ih
  have hpy:=h1.1 y List.mem_cons_self
  have hb: ∀x∈dd1 q y t,P p x<0:=by
   intro x hx
   have e1:=ih1.1 x hx
   have e2:=hP.trans p y x hpy o_m
   have:P p x≠0:=fun e=>by
    have:=(e2.2 e).2
    omega
   omega
  rw[dd1_cons]
  split
  ·exact List.pairwise_cons.2 ⟨hb,ih1.2⟩
  rename_i hn
  refine List.pairwise_cons.2 ⟨fun x hx=> ?_,ih⟩
  rcases List.mem_cons.1 hx with rfl|hx
  ·have:P p x≠0:=fun e=>hn ((hq x p).2 e)
   omega
  exact hb x hx
theorem dd_pw {P:Mr→Mr→Int}(hP:Lin P){q:Mr→Mr→Bool}(hq: ∀x y,q x y=true↔P y x=0){l:List Mr}(h:l.Pairwise (fun x y=>P x y≤0)):(dd q l).Pairwise (fun x y=>P x y<0):=by
 cases l with
 |nil=>exact List.Pairwise.nil
 |cons x t=>exact dd1_pw hP hq t x h
theorem dd1_cov {P:Mr→Mr→Int}(hP:Lin P){q:Mr→Mr→Bool}(hq: ∀x y,q x y=true↔P y x=0){S:Mr→Mr→Prop}(hr: ∀x,S x x)(ht: ∀x y z,S x y→S y z→S x z): ∀(l:List Mr) (p:Mr),(p::l).Pairwise S→∀y∈p::l,∃x∈p::dd1 q p l,P x y=0∧S x y
 | [],p=>fun _ y hy=>by
  have e:y=p:=by simpa using hy
  subst e
  have:=hP.anti y y
  exact⟨y,List.mem_cons_self,by omega,hr y⟩
 |y::t,p=>fun h z hz=>by
  have h1:=List.pairwise_cons.1 h
  rcases List.mem_cons.1 hz with rfl|hz
  ·have:=hP.anti z z
   exact⟨z,List.mem_cons_self,by omega,hr z⟩
  obtain⟨x,hx,e1,e2⟩:=dd1_cov hP hq hr ht t y h1.2 z hz
  rw[dd1_cons]
  by_cases hn:q y p=true
  ·rw[if_pos hn]
   rcases List.mem_cons.1 hx with rfl|hx
   ·have e3:=(hq x p).1 hn
    have a1:=hP.anti p x
    have a2:=hP.anti x z
    have a3:=hP.anti p z
    have t1:=hP.trans p x z o_m o_m
    have t2:=hP.trans z x p o_m o_m
    exact⟨p,List.mem_cons_self,by omega,ht _ _ _ (h1.1 x List.mem_cons_self) e2⟩
   exact⟨x,List.mem_cons_of_mem _ hx,e1,e2⟩
  rw[if_neg hn]
  exact⟨x,List.mem_cons_of_mem _ hx,e1,e2⟩
theorem dd_cov {P:Mr→Mr→Int}(hP:Lin P){q:Mr→Mr→Bool}(hq: ∀x y,q x y=true↔P y x=0){S:Mr→Mr→Prop}(hr: ∀x,S x x)(ht: ∀x y z,S x y→S y z→S x z){l:List Mr}(h:l.Pairwise S): ∀y∈l,∃x∈dd q l,P x y=0∧S x y:=by
 cases l with
 |nil=>exact fun y hy=>absurd hy List.not_mem_nil
 |cons x t=>exact dd1_cov hP hq hr ht t x h

def ordP (n m:Nd):Int:=lex (fun x y:Nd=>ordL (lnP x.ps) (lnP y.ps)) (fun x y:Nd=>cmpI (bI (neg1 x.ps)) (bI (neg1 y.ps))) n m
theorem totP :Lin ordP:=(tot_ord fun x:Nd=>lnP x.ps).lex (tot_cmp fun x:Nd=>bI (neg1 x.ps))
theorem ordP_zero {n m:Nd}:ordP n m=0↔n.ps=m.ps:=by
 unfold ordP
 constructor
 ·intro h
  by_cases h1:ordL (lnP n.ps) (lnP m.ps)=0
  ·rw[lex_neg (f:=fun x y:Nd=>ordL (lnP x.ps) (lnP y.ps)) _ h1,cmpI_zero]at h
   exact ln_same (ordL_zero.1 h1) (by cases hn:neg1 n.ps <;> cases hm:neg1 m.ps <;> simp[hn,hm,bI]at h ⊢)
  rw[lex_pos (f:=fun x y:Nd=>ordL (lnP x.ps) (lnP y.ps)) _ h1]at h
  exact absurd h h1
 intro e
 rw[lex_neg (f:=fun x y:Nd=>ordL (lnP x.ps) (lnP y.ps)) _ (by rw[e];exact ordL_zero.2 rfl),e]
 exact cmpI_zero.2 rfl
theorem ordS_P (sg:Int)(n m:Nd):ordS sg n.ps n.k m.ps m.k=lex ordP (fun x y:Nd=>cmpI (sg*x.k) (sg*y.k)) n m:=by
 rw[ordS_lex]
 by_cases h1:ordL (lnP n.ps) (lnP m.ps)=0
 ·rw[lex_neg (f:=fun x y:Nd=>ordL (lnP x.ps) (lnP y.ps)) _ h1]
  have e:ordP n m=cmpI (bI (neg1 n.ps)) (bI (neg1 m.ps)):=lex_neg (f:=fun x y:Nd=>ordL (lnP x.ps) (lnP y.ps)) _ h1
  by_cases h2:cmpI (bI (neg1 n.ps)) (bI (neg1 m.ps))=0
  ·rw[lex_neg (f:=fun x y:Nd=>cmpI (bI (neg1 x.ps)) (bI (neg1 y.ps))) _ h2,lex_neg _ (e.trans h2)]
  rw[lex_pos (f:=fun x y:Nd=>cmpI (bI (neg1 x.ps)) (bI (neg1 y.ps))) _ h2,lex_pos _ (by rw[e];exact h2),e]
 have e:ordP n m=ordL (lnP n.ps) (lnP m.ps):=lex_pos (f:=fun x y:Nd=>ordL (lnP x.ps) (lnP y.ps)) _ h1
 rw[lex_pos (f:=fun x y:Nd=>ordL (lnP x.ps) (lnP y.ps)) _ h1,lex_pos _ (by rw[e];exact h1),e]
theorem ordS_le {sg:Int}{n m:Nd}(h:ordS sg n.ps n.k m.ps m.k≤0):ordP n m≤0∧(n.ps=m.ps→sg*n.k≤sg*m.k):=by
 rw[ordS_P]at h
 by_cases e:ordP n m=0
 ·rw[lex_neg _ e]at h
  refine⟨by omega,fun _=> ?_⟩
  unfold cmpI at h
  omega
 rw[lex_pos _ e]at h
 exact⟨h,fun e'=>absurd (ordP_zero.2 e') e⟩
def qS (x y:Mr):Bool:=decide (x.n.ps=y.n.ps)
structure Left9 (sg:Int) (rs rs':List Mr):Prop where
 sub:rs'.Sublist rs
 pw:rs'.Pairwise fun x y=>ordP x.n y.n<0
 least: ∀x∈rs',∀y∈rs,y.n.ps=x.n.ps→¬sg*y.n.k<sg*x.n.k
 cov: ∀y∈rs,∃x∈rs',x.n.ps=y.n.ps
theorem left9_dd {sg:Int}{rs:List Mr}(h:rs.Pairwise fun x y=> ¬ordS sg y.n.ps y.n.k x.n.ps x.n.k<0):Left9 sg rs (dd qS rs):=by
 have hle:rs.Pairwise fun x y:Mr=>ordS sg x.n.ps x.n.k y.n.ps y.n.k≤0:=h.imp fun{x y} e=>by
  have:=(totS sg).anti x.n y.n
  omega
 have hP:Lin fun x y:Mr=>ordP x.n y.n:=totP.on Mr.n
 have hq: ∀x y,qS x y=true↔ordP y.n x.n=0:=fun x y=>by
  unfold qS
  rw[decide_eq_true_eq,ordP_zero]
  exact eq_comm
 have hpw:=dd_pw hP hq (hle.imp fun{x y} e=>(ordS_le e).1)
 have hcov:=dd_cov hP hq (S:=fun x y:Mr=>ordS sg x.n.ps x.n.k y.n.ps y.n.k≤0)
  (fun x=>by have:=(totS sg).anti x.n x.n;omega)
  (fun x y z e1 e2=>((totS sg).trans x.n y.n z.n e1 e2).1) hle
 refine⟨dd_sub _ _,hpw,fun x hx y hy e=> ?_,fun y hy=> ?_⟩
 ·obtain⟨x',hx',e1,e2⟩:=hcov y hy
  have e3:x'.n.ps=y.n.ps:=ordP_zero.1 e1
  have e4:x'=x:=by
   obtain⟨i,hi,rfl⟩:=List.getElem_of_mem hx
   obtain⟨j,hj,rfl⟩:=List.getElem_of_mem hx'
   have hz:=ordP_zero.2 (e3.trans e)
   have ha:=totP.anti (dd qS rs)[j].n (dd qS rs)[i].n
   rcases Nat.lt_trichotomy i j with hij|rfl|hij
   ·have:=List.pairwise_iff_getElem.1 hpw i j hi hj hij
    omega
   ·rfl
   have:=List.pairwise_iff_getElem.1 hpw j i hj hi hij
   omega
  subst e4
  have:=(ordS_le e2).2 e3
  omega
 obtain⟨x,hx,e1,_⟩:=hcov y hy
 exact⟨x,hx,ordP_zero.1 e1⟩
end Nt
namespace Nt
open Od

theorem hp_of {P:Mr→Mr→Int}(hP:Lin P){mat:Mr→Mr→Bool}{rs:List Mr}(hs:rs.Pairwise fun x y=>P x y≤0)(hy: ∀x∈rs,∀y∈rs,mat x y=true→mat y x=true){a b:Nat}(ha:a<rs.length)(hb:b<rs.length)(hab:a≠b)(h0:P rs[a] rs[b]=0)(hm:mat rs[a] rs[b]=true):HP P mat rs 0:=by
 have key: ∀a b (ha:a<rs.length) (hb:b<rs.length),a<b→P rs[a] rs[b]=0→mat rs[a] rs[b]=true→HP P mat rs 0:=by
  intro a b ha hb hlt h0 hm
  refine⟨a,b,hlt,hb,Nat.zero_le _,fun k h1 h2=> ?_,by rw[gm_get ha,gm_get hb];exact hm⟩
  have hk:k<rs.length:=by omega
  rw[gm_get ha,gm_get hk]
  have e1:=List.pairwise_iff_getElem.1 hs a k ha hk h1
  have e2:P rs[k] rs[b]≤0:=by
   rcases Nat.lt_or_ge k b with h3|h3
   ·exact List.pairwise_iff_getElem.1 hs k b hk hb h3
   obtain rfl:k=b:=by omega
   have:=hP.anti rs[k] rs[k]
   omega
  exact((hP.trans _ _ _ e1 e2).2 h0).1
 rcases Nat.lt_or_gt_of_ne hab with h|h
 ·exact key a b ha hb h h0 hm
 refine key b a hb ha h ?_ (hy _ (List.getElem_mem _) _ (List.getElem_mem _) hm)
 have:=hP.anti rs[a] rs[b]
 omega
theorem hp_two {P:Mr→Mr→Int}{mat:Mr→Mr→Bool}{rs:List Mr}(h:HP P mat rs 0): ∃a b,∃ha:a<rs.length,∃hb:b<rs.length,a<b∧P rs[a] rs[b]=0∧mat rs[a] rs[b]=true:=by
 obtain⟨a,b,h1,h2,_,h3,h4⟩:=h
 have ha:a<rs.length:=by omega
 have h5:=h3 b h1 (Nat.le_refl _)
 rw[gm_get ha,gm_get h2]at h4 h5
 exact⟨a,b,ha,h2,h1,h5,h4⟩

structure Mb9 (L:List Nd) (M:Int→Prop) (rs:List Mr):Prop where
 n: ∀m∈rs,m.n=ndI L m.id
 m: ∀x,M x↔ ∃m∈rs,m.id=x
 ok: ∀x,M x→okI L x
theorem ndI_inj {kk:Int}{L:List Nd}(hg:Gv kk L){x y:Int}(hx:okI L x)(hy:okI L y)(e:ndI L x=ndI L y):x=y:=by
 have h1:=ndI_some hx
 have h2:=ndI_some hy
 rw[e]at h1
 have:=hg.uq _ _ _ h1 h2
 have a1:=hx.1
 have a2:=hy.1
 omega
theorem less_same {kk:Int}{L:List Nd}(hg:Gv kk L){x y:Int}(hx:okI L x)(hy:okI L y)(h1:(ndI L x).kind=2)(h2:(ndI L y).kind=2)(e1:(ndI L x).ps=(ndI L y).ps)(e2:(ndI L x).k=(ndI L y).k):x=y:=by
 refine ndI_inj hg hx hy ?_
 have key: ∀z,okI L z→(ndI L z).kind=2→ndI L z=⟨2,0,(ndI L z).ps,(ndI L z).k,0,[]⟩:=by
  intro z hz h
  obtain⟨h3,_,_,h4⟩:=hg.atm hz o_m
  have hd:(atmN (ndI L z)).d=0:=by
   have hk:(atmN (ndI L z)).kind=2:=h
   rcases h3 with⟨h5,_⟩|⟨_,h5,_⟩|⟨h5,_⟩
   ·omega
   ·exact h5
   omega
  have hk:(atmN (ndI L z)).kind=2:=h
  rw[h4]
  unfold ndA
  rw[hk,hd]
 rw[key x hx h1,key y hy h2,e1,e2]
theorem less_ps {kk:Int}{L:List Nd}(hg:Gv kk L){x:Int}(hx:okI L x)(h1:(ndI L x).kind=2∨(ndI L x).kind=3∨(ndI L x).kind=4):(ndI L x).ps≠ []∧Std (ndI L x).ps:=by
 obtain⟨h3,_⟩:=hg.atm hx o_m
 have hk:(atmN (ndI L x)).kind=(ndI L x).kind:=rfl
 refine⟨?_,h3.std⟩
 rcases h3 with⟨h5,_⟩|⟨_,_,_,h5,_⟩|⟨_,h5,_⟩
 ·omega
 ·exact h5
 exact h5.some
theorem neg_ne {ps:List (Int × Int)}(h0:ps≠ [])(hS:Std ps):ps≠negP ps:=by
 cases ps with
 |nil=>exact absurd rfl h0
 |cons p t=>
  intro e
  have e2:negP (p::t)=(p.1,-p.2)::negP t:=rfl
  rw[e2]at e
  injection e with e3 _
  have h1:=hS.2 p List.mem_cons_self
  have h2:p.2= -p.2:=congrArg Prod.snd e3
  omega
theorem neg_ln {ps:List (Int × Int)}(h0:ps≠ [])(hS:Std ps):lnP (negP ps)=lnP ps:=by
 cases ps with
 |nil=>exact absurd rfl h0
 |cons p t=>
  have h1:=hS.2 p List.mem_cons_self
  have e:neg1 (negP (p::t))= !neg1 (p::t):=by
   show decide (-p.2<0)= !decide (p.2<0)
   by_cases h:p.2<0
   ·rw[decide_eq_true h,decide_eq_false o_m]
    rfl
   rw[decide_eq_false h,decide_eq_true o_m]
   rfl
  unfold lnP
  rw[e,←tP_not (!neg1 (p::t)) (p::t),tP_tP,Bool.not_not]
theorem stay_iff {kk:Int}{L:List Nd}{M:Int→Prop}{sg:Int}{rs ls d:List Mr}(hg:Gv kk L)(hsg:sg=1∨sg= -1)(hb:Mb9 L M rs)(hp:ls.Perm (rs.filter p1))(hl:Left9 sg ls d)(x:Int):Stay L sg M x↔ ∃m∈d,m.id=x:=by
 have hin: ∀m,m∈ls↔m∈rs∧m.n.kind=2:=fun m=>by
  rw[hp.mem_iff,List.mem_filter]
  unfold p1
  rw[beq_iff_eq]
 constructor
 ·rintro⟨h1,h2,h3⟩
  obtain⟨m,hm,rfl⟩:=(hb.m x).1 h1
  have hmn:=hb.n m hm
  obtain⟨m',hm',e⟩:=hl.cov m ((hin m).2 ⟨hm,by rw[hmn];exact h2⟩)
  have hm2:=(hin m').1 (hl.sub.mem hm')
  have hmn':=hb.n m' hm2.1
  have hM':=(hb.m m'.id).2 ⟨m',hm2.1,rfl⟩
  have g1:=hl.least m' hm' m ((hin m).2 ⟨hm,by rw[hmn];exact h2⟩) e.symm
  have g2:=h3 m'.id hM' (by rw[←hmn'];exact hm2.2) (by rw[←hmn',←hmn];exact e)
  refine⟨m',hm',(less_same hg (hb.ok _ h1) (hb.ok _ hM') h2 (by rw[←hmn'];exact hm2.2) (by rw[←hmn',←hmn];exact e.symm) ?_).symm⟩
  rw[hmn,hmn']at g1
  rcases hsg with rfl|rfl <;> omega
 rintro⟨m,hm,rfl⟩
 have hm2:=(hin m).1 (hl.sub.mem hm)
 have hmn:=hb.n m hm2.1
 refine⟨(hb.m _).2 ⟨m,hm2.1,rfl⟩,by rw[←hmn];exact hm2.2,fun y hy h2 e=> ?_⟩
 obtain⟨m',hm',rfl⟩:=(hb.m y).1 hy
 have hmn':=hb.n m' hm'
 have:=hl.least m hm m' ((hin m').2 ⟨hm',by rw[hmn'];exact h2⟩) (by rw[hmn,hmn'];exact e)
 rw[hmn,hmn']at this
 exact this
theorem clash_iff {kk:Int}{L:List Nd}{M:Int→Prop}{sg:Int}{rs ls d:List Mr}(hg:Gv kk L)(hsg:sg=1∨sg= -1)(hb:Mb9 L M rs)(hp:ls.Perm (rs.filter p1))(hl:Left9 sg ls d):
  HP (fun x y=>ordL (lnP x.n.ps) (lnP y.n.ps)) (fun x y=>decide (cmpI (sg*(x.n.k+y.n.k)) (sg*1)≤0)) d 0↔Clash L sg M:=by
 have hst:=stay_iff hg hsg hb hp hl
 have hmem: ∀m∈d,Stay L sg M m.id∧m.n=ndI L m.id:=fun m hm=>by
  refine⟨(hst _).2 ⟨m,hm,rfl⟩,hb.n m ?_⟩
  have:=hp.mem_iff.1 (hl.sub.mem hm)
  exact(List.mem_filter.1 this).1
 have hcmp: ∀a b:Int,cmpI a b≤0↔a≤b:=fun a b=>by unfold cmpI;split <;> (try split) <;> omega
 have hord: ∀x y:Nd,ordP x y<0→ordL (lnP x.ps) (lnP y.ps)≤0:=fun x y h=>by
  by_cases e:ordL (lnP x.ps) (lnP y.ps)=0
  ·omega
  have:ordP x y=ordL (lnP x.ps) (lnP y.ps):=lex_pos (f:=fun x y:Nd=>ordL (lnP x.ps) (lnP y.ps)) _ e
  omega
 have hP:Lin fun x y:Mr=>ordL (lnP x.n.ps) (lnP y.n.ps):=tot_ord fun x:Mr=>lnP x.n.ps
 constructor
 ·intro h
  obtain⟨a,b,ha,hb',hab,h1,h2⟩:=hp_two h
  have e1:=hmem d[a] (List.getElem_mem _)
  have e2:=hmem d[b] (List.getElem_mem _)
  have h3:=List.pairwise_iff_getElem.1 hl.pw a b ha hb' hab
  refine⟨d[a].id,d[b].id,e1.1,e2.1,?_,?_⟩
  ·rw[←e1.2,←e2.2]
   refine ln_neg (ordL_zero.1 h1) fun e=> ?_
   have:=ordP_zero.2 (ln_same (ordL_zero.1 h1) e)
   omega
  have h4:=(hcmp _ _).1 (of_decide_eq_true h2)
  rw[←e1.2,←e2.2]
  omega
 rintro⟨x,y,h1,h2,e,h3⟩
 obtain⟨m,hm,rfl⟩:=(hst x).1 h1
 obtain⟨m',hm',rfl⟩:=(hst y).1 h2
 obtain⟨a,ha,rfl⟩:=List.getElem_of_mem hm
 obtain⟨b,hb',rfl⟩:=List.getElem_of_mem hm'
 have e1:=(hmem d[a] (List.getElem_mem _)).2
 have e2:=(hmem d[b] (List.getElem_mem _)).2
 have hps:=less_ps hg (hb.ok _ h1.1) (.inl h1.2.1)
 refine hp_of hP (hl.pw.imp fun{x y} h=>hord x.n y.n h) (fun x _ y _ h=> ?_) ha hb' (fun hab=> ?_) ?_ ?_
 ·rw[Int.add_comm]
  exact h
 ·subst hab
  exact neg_ne hps.1 hps.2 e
 ·show ordL (lnP d[a].n.ps) (lnP d[b].n.ps)=0
  rw[e1,e2,e]
  exact ordL_zero.2 (neg_ln hps.1 hps.2).symm
 refine decide_eq_true ((hcmp _ _).2 ?_)
 rw[e1,e2]
 omega
theorem div_pos {kk:Int}{L:List Nd}(hg:Gv kk L){x:Int}(hx:okI L x)(h1:(ndI L x).kind=3∨(ndI L x).kind=4):neg1 (ndI L x).ps=false:=by
 obtain⟨h3,_⟩:=hg.atm hx o_m
 have hk:(atmN (ndI L x)).kind=(ndI L x).kind:=rfl
 have h:Dsh (ndI L x).d (ndI L x).ps (ndI L x).k:=by
  rcases h3 with⟨h5,_⟩|⟨h5,_⟩|⟨_,h5,_⟩
  ·omega
  ·omega
  exact h5
 cases hps:(ndI L x).ps with
 |nil=>rfl
 |cons p t=>
  have:=h.rng p (by rw[hps];exact List.mem_cons_self)
  show decide (p.2<0)=false
  rw[decide_eq_false_iff_not]
  omega
theorem ordD_zero {n m:Nd}:ordD n m=0↔n.d=m.d∧lnP n.ps=lnP m.ps∧n.k=m.k:=by
 unfold ordD
 constructor
 ·intro h
  by_cases h1:cmpI n.d m.d=0
  ·rw[if_neg (fun e=>e h1)]at h
   by_cases h2:ordL (lnP n.ps) (lnP m.ps)=0
   ·rw[if_neg (fun e=>e h2)]at h
    exact⟨cmpI_zero.1 h1,ordL_zero.1 h2,cmpI_zero.1 h⟩
   rw[if_pos h2]at h
   exact absurd h h2
  rw[if_pos h1]at h
  exact absurd h h1
 rintro⟨h1,h2,h3⟩
 rw[h1,h2,h3,if_neg (fun e=>e (cmpI_zero.2 rfl)),if_neg (fun e=>e (ordL_zero.2 rfl))]
 exact cmpI_zero.2 rfl
theorem oppos_iff {kk:Int}{L:List Nd}{M:Int→Prop}{rs ls:List Mr}(hg:Gv kk L)(hb:Mb9 L M rs)(hp:ls.Perm (rs.filter p2))(hs:ls.Pairwise fun x y=> ¬ordD y.n x.n<0):
  HP (fun x y=>ordD x.n y.n) (fun x y=> !(x.n.kind==y.n.kind)) ls 0↔Oppos L M:=by
 have hin: ∀m,m∈ls↔m∈rs∧(m.n.kind=3∨m.n.kind=4):=fun m=>by
  rw[hp.mem_iff,List.mem_filter]
  unfold p2
  rw[Bool.or_eq_true,beq_iff_eq,beq_iff_eq]
 have hmem: ∀m∈ls,M m.id∧m.n=ndI L m.id∧(m.n.kind=3∨m.n.kind=4):=fun m hm=>by
  have h:=(hin m).1 hm
  exact⟨(hb.m _).2 ⟨m,h.1,rfl⟩,hb.n m h.1,h.2⟩
 have hP:Lin fun x y:Mr=>ordD x.n y.n:=totD.on Mr.n
 have hle:ls.Pairwise fun x y:Mr=>ordD x.n y.n≤0:=hs.imp fun{x y} e=>by
  have:=totD.anti x.n y.n
  omega
 have hps: ∀m∈ls,neg1 m.n.ps=false:=fun m hm=>by
  have h:=hmem m hm
  rw[h.2.1]
  exact div_pos hg (hb.ok _ h.1) (by rw[←h.2.1];exact h.2.2)
 have hpse: ∀m∈ls,∀m'∈ls,lnP m.n.ps=lnP m'.n.ps→m.n.ps=m'.n.ps:=fun m hm m' hm' e=>ln_same e (by rw[hps m hm,hps m' hm'])
 constructor
 ·intro h
  obtain⟨a,b,ha,hb',hab,h1,h2⟩:=hp_two h
  have e1:=hmem ls[a] (List.getElem_mem _)
  have e2:=hmem ls[b] (List.getElem_mem _)
  have h3:=ordD_zero.1 h1
  have h4:ls[a].n.kind≠ls[b].n.kind:=by simpa using h2
  have h5:=hpse ls[a] (List.getElem_mem _) ls[b] (List.getElem_mem _) h3.2.1
  rcases e1.2.2 with k1|k1
  ·refine⟨ls[a].id,ls[b].id,e1.1,e2.1,?_⟩
   rw[←e1.2.1,←e2.2.1]
   exact⟨k1,by omega,h3.1,h5,h3.2.2⟩
  refine⟨ls[b].id,ls[a].id,e2.1,e1.1,?_⟩
  rw[←e1.2.1,←e2.2.1]
  exact⟨by omega,k1,h3.1.symm,h5.symm,h3.2.2.symm⟩
 rintro⟨x,y,h1,h2,k1,k2,e1,e2,e3⟩
 obtain⟨m,hm,rfl⟩:=(hb.m x).1 h1
 obtain⟨m',hm',rfl⟩:=(hb.m y).1 h2
 have hn:=hb.n m hm
 have hn':=hb.n m' hm'
 rw[←hn]at k1 e1 e2 e3
 rw[←hn']at k2 e1 e2 e3
 obtain⟨a,ha,ea⟩:=List.getElem_of_mem ((hin m).2 ⟨hm,.inl k1⟩)
 obtain⟨b,hb',eb⟩:=List.getElem_of_mem ((hin m').2 ⟨hm',.inr k2⟩)
 refine hp_of hP hle (fun x _ y _ h=> ?_) ha hb' (fun hab=> ?_) ?_ ?_
 ·rw[Bool.not_eq_true',beq_eq_false_iff_ne]at h ⊢
  exact fun e=>h e.symm
 ·subst hab
  rw[ea]at eb
  rw[eb]at k1
  omega
 ·show ordD ls[a].n ls[b].n=0
  rw[ea,eb]
  exact ordD_zero.2 ⟨e1,by rw[e2],e3⟩
 show(!(ls[a].n.kind==ls[b].n.kind))=true
 rw[ea,eb,k1,k2]
 rfl
theorem keep_iff {kk:Int}{L:List Nd}{M:Int→Prop}{sg:Int}{rs ls d es:List Mr}(hg:Gv kk L)(hsg:sg=1∨sg= -1)(hb:Mb9 L M rs)(hp:ls.Perm (rs.filter p1))(hl:Left9 sg ls d)(hq:es.Perm (rs.filter p2))(x:Int):Keep L sg M x↔ ∃m∈d++es++rs.filter p3,m.id=x:=by
 have hst:=stay_iff hg hsg hb hp hl
 constructor
 ·rintro⟨h1,h2⟩
  obtain⟨m,hm,rfl⟩:=(hb.m x).1 h1
  have hn:=hb.n m hm
  by_cases k2:m.n.kind=2
  ·obtain⟨m',hm',e⟩:=(hst _).1 (h2 (by rw[←hn];exact k2))
   exact⟨m',List.mem_append_left _ (List.mem_append_left _ hm'),e⟩
  by_cases k3:m.n.kind=3∨m.n.kind=4
  ·refine⟨m,List.mem_append_left _ (List.mem_append_right _ ?_),rfl⟩
   rw[hq.mem_iff,List.mem_filter]
   unfold p2
   rw[Bool.or_eq_true,beq_iff_eq,beq_iff_eq]
   exact⟨hm,k3⟩
  refine⟨m,List.mem_append_right _ ?_,rfl⟩
  rw[List.mem_filter]
  refine⟨hm,?_⟩
  unfold p3 p1 p2
  simp only[Bool.not_eq_true',Bool.or_eq_false_iff,beq_eq_false_iff_ne]
  omega
 rintro⟨m,hm,rfl⟩
 rcases List.mem_append.1 hm with hm|hm
 ·rcases List.mem_append.1 hm with hm|hm
  ·have h:=(hst m.id).2 ⟨m,hm,rfl⟩
   exact⟨h.1,fun _=>h⟩
  rw[hq.mem_iff,List.mem_filter]at hm
  have hn:=hb.n m hm.1
  have k:=hm.2
  unfold p2 at k
  rw[Bool.or_eq_true,beq_iff_eq,beq_iff_eq]at k
  exact⟨(hb.m _).2 ⟨m,hm.1,rfl⟩,fun e=>by rw[←hn]at e;omega⟩
 rw[List.mem_filter]at hm
 have hn:=hb.n m hm.1
 have k:=hm.2
 unfold p3 p1 p2 at k
 simp only[Bool.not_eq_true',Bool.or_eq_false_iff,beq_eq_false_iff_ne]at k
 exact⟨(hb.m _).2 ⟨m,hm.1,rfl⟩,fun e=>by rw[←hn]at e;omega⟩
def ndd (dual:Int)(all:List Int)(m:Mr):Bool:=!(m.n.kind==dual)|| !(m.n.kids.any fun z=>decide (z∈all))
theorem need_iff {kk:Int}{L:List Nd}{M:Int→Prop}{sg dual:Int}{rs ls d es:List Mr}(hg:Gv kk L)(hsg:sg=1∨sg= -1)(hb:Mb9 L M rs)(hp:ls.Perm (rs.filter p1))(hl:Left9 sg ls d)(hq:es.Perm (rs.filter p2)){all:List Int}(ha: ∀x,x∈all↔x∈(d++es++rs.filter p3).map Mr.id)(x:Int):
  x∈((d++es++rs.filter p3).filter (ndd dual all)).map Mr.id↔Need L sg dual M x:=by
 have hk:=keep_iff hg hsg hb hp hl hq
 have hn: ∀m∈d++es++rs.filter p3,m.n=ndI L m.id:=fun m hm=>by
  refine hb.n m ?_
  rcases List.mem_append.1 hm with hm|hm
  ·rcases List.mem_append.1 hm with hm|hm
   ·exact(List.mem_filter.1 (hp.mem_iff.1 (hl.sub.mem hm))).1
   exact(List.mem_filter.1 (hq.mem_iff.1 hm)).1
  exact(List.mem_filter.1 hm).1
 have hal: ∀x,x∈all↔Keep L sg M x:=fun x=>by rw[ha x,hk x,List.mem_map]
 have hnd: ∀m∈d++es++rs.filter p3,(ndd dual all m=true↔ ¬((ndI L m.id).kind=dual∧∃z∈(ndI L m.id).kids,Keep L sg M z)):=fun m hm=>by
  rw[←hn m hm]
  unfold ndd
  simp only[Bool.or_eq_true,Bool.not_eq_true',beq_eq_false_iff_ne,List.any_eq_false,decide_eq_true_eq]
  constructor
  ·rintro(h|h) ⟨h1,z,hz,h2⟩
   ·exact h h1
   exact h z hz ((hal z).2 h2)
  intro h
  by_cases h1:m.n.kind=dual
  ·exact .inr fun z hz h2=>h ⟨h1,z,hz,(hal z).1 h2⟩
  exact .inl h1
 rw[List.mem_map]
 constructor
 ·rintro⟨m,hm,rfl⟩
  rw[List.mem_filter]at hm
  exact⟨(hk _).2 ⟨m,hm.1,rfl⟩,(hnd m hm.1).1 hm.2⟩
 rintro⟨h1,h2⟩
 obtain⟨m,hm,rfl⟩:=(hk x).1 h1
 exact⟨m,List.mem_filter.2 ⟨hm,(hnd m hm).2 h2⟩,rfl⟩
end Nt
end Go.Proofs.YtllfelooahplhaaGreatDoor

namespace Go.Proofs.YtllfelooahplhaaGreatDoor
open Go.RowKit Go.Sort Go.Shelf
open Tm At
namespace Nt

def lwV (kd dual idle rul:Int)(K:Nat):Array Value:=#[.int .i64 kd,.int .i64 dual,.int .i64 idle,.int .i64 rul,.func (.func K) #[] #[]]
theorem rules_n {w:World}{kd dual idle rul i:Int}{K:Nat}{x:NR}:
  Calls Tryz.prog 95 #[.agg (lwV kd dual idle rul K),.agg (mE i x)] w fun e w'=>e= .returned (.bool (i==rul))∧Below w.heap.size w w':=by
 obtain⟨kd0,sd0,ad0,ld0,cd0,ap0,np0,cp0,sk0,ak0,lk0,ck0,vr0,ka0,kn0,kc0⟩:=x
 simp only[lwV,mE]
 have b0:=hide (below_alloc' (below_alloc w (.cells #[.int .i64 kd,.int .i64 dual,.int .i64 idle,.int .i64 rul,.func (.func K) #[] #[]] 94)) (.cells #[.int .i64 i,.int .i64 kd0,.bool sd0,.slice ad0 ld0 cd0,.slice ap0 np0 cp0,.bool sk0,.slice ak0 lk0 ck0,.int .i64 vr0,.slice ka0 kn0 kc0] 155))
 go_enter Tryz.func95,Tryz.ntmps95
 go_wp2
 go_ret
 exact⟨rfl,b0.out⟩
theorem indexM_n {w:World}{base n:Nat}{v:Value}{rs:List Mr}{kd dual idle rul:Int}{K:Nat}(h:w.ownsRow base 155 9 v n (flat9 rs))(hn:rs.length=n)(hm:n≤1048000):
  Calls Tryz.prog 150 #[v,.func (.func 95) #[.agg (lwV kd dual idle rul K)] #[]] w fun x w'=> ∃i:Int,x= .returned (.int .i64 i)∧(decide (0≤i)=rs.any fun m=>m.id==rul)∧-1≤i∧i<n∧Below w.heap.size w w':=by
 obtain⟨av,cv,rfl⟩:=row9_form h
 go_enter Tryz.func150,Tryz.ntmps150
 go_wp2_with fail
 go_loopw [8] (fun q wr=> ∃t:Nat,t≤n∧q= .int .i64 t∧Hid (((rs.take t).any fun m=>m.id==rul)=false)∧Hid (Below w.heap.size w wr)) (fun q _=>n-(intOf q).toNat)
 case atStart=>exact⟨0,Nat.zero_le _,rfl,(show _=_ by simp),hide (Below.refl _ _)⟩
 case round=>
  obtain⟨t,ht,rfl,hno,kr⟩:=hrel
  by_cases htm:t<n
  ·obtain⟨g,cap,hsl,hgl,hc⟩:=row9_cell (own_below h kr.out) hn htm
   injection hsl with ea eb ec
   subst ea ec
   clear eb
   have hstep:Hid (((rs.take (t+1)).any fun m=>m.id==rul)=((rs[t]'o_m).id==rul)):=(show _=_ by rw[List.take_succ_eq_append_getElem (l:=rs) (i:=t) o_m,List.any_append,hno.out];simp)
   have hex:Hid (((rs[t]'o_m).id==rul)=true→(rs.any fun m=>m.id==rul)=true):=(fun hh=>List.any_eq_true.2 ⟨rs[t]'o_m,List.getElem_mem _,hh⟩)
   have e0:=hc 0 (by decide)
   have e1:=hc 1 (by decide)
   have e2:=hc 2 (by decide)
   have e3:=hc 3 (by decide)
   have e4:=hc 4 (by decide)
   have e5:=hc 5 (by decide)
   have e6:=hc 6 (by decide)
   have e7:=hc 7 (by decide)
   have e8:=hc 8 (by decide)
   clear hc h
   generalize rs[t]'o_m=m at*
   have hcl:=hide (rules_n (w:=wr) (kd:=kd) (dual:=dual) (idle:=idle) (rul:=rul) (i:=m.id) (K:=K) (x:=m.x))
   obtain⟨i,⟨kd0,sd0,ad0,ld0,cd0,ap0,np0,cp0,sk0,ak0,lk0,ck0,vr0,ka0,kn0,kc0⟩,nd⟩:=m
   simp only[Mr.enc,mE,Nat.add_zero,List.getElem?_cons_zero,List.getElem?_cons_succ]at e0 e1 e2 e3 e4 e5 e6 e7 e8
   simp only[mE]at hcl
   dsimp only at hstep hex
   replace hn:=hide hn
   go_wp2_with fail
   refine hcl.out.mono ?_
   rintro x w2 ⟨rfl,k2⟩
   replace k2:=hide (grow_step k2 kr.out)
   clear hcl e0 e1 e2 e3 e4 e5 e6 e7 e8
   cases hil:(i==rul)with
   |true=>
    have hany:=hide (hex.out hil)
    clear hil hex hstep
    go_wp2
    go_ret
    exact⟨t,rfl,by rw[hany.out];simp,by omega,by omega,k2.out⟩
   |false=>
    have hst:=hide (hstep.out.trans hil)
    clear hil hex hstep
    go_wp2
    go_round
    case rel=>exact⟨t+1,by omega,by go_num,hst,k2⟩
    case measure=>simp[intOf];omega
  obtain rfl:t=n:=by omega
  have hall:Hid ((rs.any fun m=>m.id==rul)=false):=by
   have h1:=hno.out
   rw[List.take_of_length_le o_m]at h1
   exact h1
  clear hno h
  go_wp2
  go_ret
  exact⟨-1,rfl,by rw[hall.out];rfl,by omega,by omega,kr.out⟩
theorem containsM_n {w:World}{base n:Nat}{v:Value}{rs:List Mr}{kd dual idle rul:Int}{K:Nat}(h:w.ownsRow base 155 9 v n (flat9 rs))(hn:rs.length=n)(hm:n≤1048000):
  Calls Tryz.prog 94 #[v,.func (.func 95) #[.agg (lwV kd dual idle rul K)] #[]] w fun x w'=>x= .returned (.bool (rs.any fun m=>m.id==rul))∧Below w.heap.size w w':=by
 have hix:=hide (indexM_n (kd:=kd) (dual:=dual) (idle:=idle) (rul:=rul) (K:=K) h hn hm)
 clear h
 go_enter Tryz.func94,Tryz.ntmps94
 go_wp2_with fail
 refine hix.out.mono ?_
 rintro x w1 ⟨i,rfl,h1,h2,h3,k1⟩
 replace k1:=hide k1
 replace h1:=hide h1
 clear hix
 go_wp2
 go_ret
 exact⟨by rw[←h1.out];rfl,k1.out⟩
end Nt
end Go.Proofs.YtllfelooahplhaaGreatDoor

namespace Go.Proofs.YtllfelooahplhaaGreatDoor
open Tm At
namespace Nt
open Od

theorem dd_one (q:Mr→Mr→Bool){rs:List Mr}(h:0<rs.length):dd q (rs.take 1)=rs.take 1:=by
 cases rs with
 |nil=>simp at h
 |cons x t=>rfl
theorem dd_grow {q:Mr→Mr→Bool}{rs:List Mr}{e:Nat}(h1:1≤e)(he:e<rs.length)(h:dd q (rs.take e)=rs.take e)(hq:q rs[e] (rs[e-1]'o_m)=false):dd q (rs.take (e+1))=rs.take (e+1):=by
 obtain⟨d,rfl⟩: ∃d,e=d+1:=⟨e-1,by omega⟩
 have hq':q rs[d+1] (rs[d]'o_m)=false:=hq
 rw[dd_take he,hq',if_neg (by simp),h,←List.take_succ_eq_append_getElem he]
structure Cp (q:Mr→Mr→Bool) (rs cur:List Mr) (e k:Nat):Prop where
 len:cur.length=rs.length
 lo:1≤k
 hi:k<e
 en:e≤rs.length
 fr:cur.take k=dd q (rs.take e)
 bk: ∀i,e≤i+1→cur[i]? =rs[i]?
theorem Cp.start {q:Mr→Mr→Bool}{rs:List Mr}{e:Nat}(h1:1≤e)(he:e<rs.length)(h:dd q (rs.take e)=rs.take e)(hq:q rs[e] (rs[e-1]'o_m)=true):Cp q rs rs (e+1) e:=by
 obtain⟨d,rfl⟩: ∃d,e=d+1:=⟨e-1,by omega⟩
 have hq':q rs[d+1] (rs[d]'o_m)=true:=hq
 exact⟨rfl,h1,by omega,he,by rw[dd_take he,hq',if_pos rfl,List.append_nil,h],fun _ _=>rfl⟩
theorem Cp.at {q:Mr→Mr→Bool}{rs cur:List Mr}{e k:Nat}(h:Cp q rs cur e k){i:Nat}(hi:e≤i+1)(hn:i<rs.length):cur[i]'(by rw[h.len];exact hn)=rs[i]:=by
 have:=h.bk i hi
 rw[List.getElem?_eq_getElem (by rw[h.len];exact hn),List.getElem?_eq_getElem hn]at this
 exact Option.some.inj this
theorem Cp.skip {q:Mr→Mr→Bool}{rs cur:List Mr}{e k:Nat}(h:Cp q rs cur e k)(he:e<rs.length)(hq:q rs[e] (rs[e-1]'o_m)=true):Cp q rs cur (e+1) k:=by
 have h1:=h.lo
 have h2:=h.hi
 obtain⟨d,rfl⟩: ∃d,e=d+1:=⟨e-1,by omega⟩
 have hq':q rs[d+1] (rs[d]'o_m)=true:=hq
 exact⟨h.len,h1,by omega,he,by rw[dd_take he,hq',if_pos rfl,List.append_nil,h.fr],fun i hi=>h.bk i o_m⟩
theorem Cp.put {q:Mr→Mr→Bool}{rs cur:List Mr}{e k:Nat}(h:Cp q rs cur e k)(he:e<rs.length)(hq:q rs[e] (rs[e-1]'o_m)=false):Cp q rs (cur.set k rs[e]) (e+1) (k+1):=by
 have h1:=h.lo
 have h2:=h.hi
 have hl:=h.len
 obtain⟨d,rfl⟩: ∃d,e=d+1:=⟨e-1,by omega⟩
 have hq':q rs[d+1] (rs[d]'o_m)=false:=hq
 refine⟨by rw[List.length_set,hl],by omega,by omega,he,?_,fun i hi=> ?_⟩
 ·rw[dd_take he,hq',if_neg (by simp),←h.fr,List.take_succ_eq_append_getElem (by rw[List.length_set];omega),List.getElem_set_self,List.take_set_of_le (Nat.le_refl k)]
 rw[List.getElem?_set_ne o_m]
 exact h.bk i o_m
theorem Cp.done {q:Mr→Mr→Bool}{rs cur:List Mr}{k:Nat}(h:Cp q rs cur rs.length k):cur.take k=dd q rs:=by
 rw[h.fr,List.take_length]
end Nt
end Go.Proofs.YtllfelooahplhaaGreatDoor

namespace Go.Proofs.YtllfelooahplhaaGreatDoor
open Go.RowKit Go.Sort Go.Shelf
open Tm At
namespace Nt

def zM :Value:=.agg #[.int .i64 0,.int .i64 0,.bool false,.slice none 0 0,.slice none 0 0,.bool false,.slice none 0 0,.int .i64 0,.slice none 0 0]
theorem zM_len (m:Nat):(Builtin.zeroCells zM.cells m).toList.length=m*9:=by
 simp[Builtin.zeroCells,zM,Value.cells]
theorem zM_one (m:Nat): ∀v∈(Builtin.zeroCells zM.cells m).toList,v.oneCell'=true:=by
 intro v hv
 simp only[Builtin.zeroCells,zM,Value.cells,Array.toList_map,List.mem_map]at hv
 obtain⟨i,_,rfl⟩:=hv
 have h9:i%9<9:=Nat.mod_lt _ (by decide)
 change (#[Value.int .i64 0,.int .i64 0,.bool false,.slice none 0 0,.slice none 0 0,.bool false,.slice none 0 0,.int .i64 0,.slice none 0 0][i%9]!).oneCell'=true
 generalize i%9=q at h9
 match q,h9 with
 |0,_=>rfl
 |1,_=>rfl
 |2,_=>rfl
 |3,_=>rfl
 |4,_=>rfl
 |5,_=>rfl
 |6,_=>rfl
 |7,_=>rfl
 |8,_=>rfl
def clr9 (cur:Array Value)(o m:Nat):Array Value:=(cur.toList.take o++(Builtin.zeroCells zM.cells m).toList++cur.toList.drop (o+m*9)).toArray
theorem clr9_size {cur:Array Value}{o m:Nat}(h:o+m*9≤cur.size):(clr9 cur o m).size=cur.size:=by
 unfold clr9
 rw[List.size_toArray,List.length_append,List.length_append,zM_len,List.length_take,List.length_drop,Array.length_toList]
 omega
theorem clr9_take {cur:Array Value}{o m:Nat}(h:o+m*9≤cur.size){j:Nat}(hj:j≤o):(clr9 cur o m).toList.take j=cur.toList.take j:=by
 unfold clr9
 rw[List.append_assoc,List.take_append_of_le_length (by rw[List.length_take,Array.length_toList];omega),List.take_take,Nat.min_eq_left hj]
theorem clear_members {w:World}{g o k c:Nat}{cur:Array Value}(hg:w.heap[g]? =some (.cells cur 155 (0,0)))(hs:o+(k+1)*9≤cur.size)(ty:TypeId):
  (Builtin.clear_ #[150] ty #[.slice (some ⟨g,o,none⟩) (k+1) c]).run Tryz.prog w= .ok (.tuple #[]) (w.setRow g (clr9 cur o (k+1))):=by
 have hst:=run_storeCells_at (P:=Tryz.prog) g o 155 (Builtin.zeroCells zM.cells (k+1)).toList 0 cur w hg (by rw[zM_len];omega) (zM_one (k+1))
 rw[zM_len]at hst
 simp only[Nat.add_zero]at hst
 have hst2:(storeCells ⟨g,o,none⟩ (Builtin.zeroCells zM.cells (k+1)).toList 0).run Tryz.prog w= .ok () (w.setRow g (clr9 cur o (k+1))):=hst
 simp only[zM]at hst2 ⊢
 simp[Builtin.clear_,run_underlying Tryz.underlying150,hst2]
theorem RB9.cut {w:World}{g cap:Nat}{rs:List Mr}{cur:Array Value}(h:RB9 w g cap rs cur){k m:Nat}(hk:k+m≤rs.length):RB9 (w.setRow g (clr9 cur (k*9) m)) g cap (rs.take k) (clr9 cur (k*9) m):=by
 have hl:=h.l
 have hs:=h.s
 have hb:k*9+m*9≤cur.size:=by omega
 have hkl:(rs.take k).length=k:=by rw[List.length_take];omega
 refine⟨setRow_heap w g cur _ _ _ h.b,by rw[clr9_size hb,hs],by omega,?_⟩
 rw[hkl,clr9_take hb (Nat.le_refl _)]
 refine Eq.trans ?_ (rb9_of (cur:=cur) (rs:=rs.take k) fun i hi c hc=> ?_)
 ·rw[hkl]
 rw[h.get o_m hc,List.getElem_take]
theorem setRow_grown (w:World)(g:Nat)(cs:Array Value):w.grownBy (w.setRow g cs) (some g):=
 ⟨rfl,rfl,rfl,by simp[World.setRow],fun k _ hk=>setRow_other w g k cs (fun e=>hk (by rw[e]))⟩
end Nt
end Go.Proofs.YtllfelooahplhaaGreatDoor
