/-
 Several texts in one: J8,JR,J9,JD,JE,JF,JO,JC,JG,JH,JI,JP,JS,JT,JU.
-/
import Derived.Test.YtbgpddlcfiiiaaaGreatDoorSbmT
import Derived.Test.YtbgpddlcfiiiaaaGreatDoorSbm35
import Derived.Laws.AppendOwnNone
import Derived.Maps.OwnSet
import Derived.WalkMore
import Derived.Shelf.SlSortCmp.NoneTotal
set_option maxRecDepth 100000
set_option maxHeartbeats 3200000
namespace Go.Proofs.YtbgpddlcfiiiaaaGreatDoor
open Go.RowKit Go.Sort Go.Shelf
open Tm At
namespace Nt

variable {w w':World}{base n s0:Nat}{v u v1 v2 v3:Value}{rs l1 l2 l3:List Mr}
theorem info9 :(Tryz.prog.info? 233).map (fun i=>(i.zero,i.size,i.bytes))=some (some (.agg #[.int .i64 0,.int .i64 0,.bool false,.slice none 0 0,.slice none 0 0,.bool false,.slice none 0 0,.int .i64 0,.slice none 0 0]),9,136):=by kernel_rfl
theorem enc9_one (m:Mr): ∀u∈m.enc,u.oneCell'=true:=by
 intro u hu
 simp[Mr.enc,mE]at hu
 rcases hu with rfl|rfl|rfl|rfl|rfl|rfl|rfl|rfl|rfl <;> rfl
theorem app9 {ops:Array Oper}{rest:List Oper}{o:Oper}{a:Act}{Q:Exit→Act→World→Prop}(hgd:o.guard=none)(s x:Operand)(ho:o.op= .call {callee:=.builtin .append,args:=#[s,x],argTypes:=#[228,228]})(base:Nat)(v:Value)(n:Nat)(rs:List Mr)(hs:a.eval s=v)(hown:w.ownsRow base 233 9 v n (flat9 rs))
  (m:Mr)(g:Nat)(hx:a.eval x= .slice (some ⟨g,0,none⟩) 1 1)(hc:M9B w g m.id m.x)(h63:n+1≤1048576)(hbase:base≤w.heap.size)
  (h: ∀v' w',w'.ownsRow base 233 9 v' (n+1) (flat9 (rs++ [m]))→w.grownBy w' v.ownBlock→(v'.ownBlock=v.ownBlock∨v'.ownBlock=some w.heap.size)→wpList Tryz.prog ops Q rest (a.put o.dst v') w'):wpList Tryz.prog ops Q (o::rest) a w:=by
 obtain⟨i0,hi,hz0,hz1,hz2⟩:=info_parts info9
 refine wpList_append_own_at w hgd s x 228 ho base 233 i0 _ 9 136 Tryz.underlying228 hi hz0 hz1 hz2 rfl (by decide) v n (flat9 rs) hs hown ⟨g,0,none⟩ 1 1 m.enc hx (by rw[enc9_len]) (fun j u hu=> ?_) (enc9_one m) (by unfold maxLen;omega) o_m hbase ?_
 ·rw[Addr.add_lit,Nat.zero_add,hc.c j,←hu]
  simp[Mr.enc]
 intro v' w' h1 h2 _ h4
 refine h v' w' ?_ h2 h4
 rw[show flat9 (rs++ [m])=flat9 rs++m.enc by simp[flat9]]
 exact h1
theorem row9_cell (h:w.ownsRow base 233 9 v n (flat9 rs))(hn:rs.length=n){i:Nat}(hi:i<n):
  ∃g cap,v= .slice (some ⟨g,0,none⟩) n cap∧g<w.heap.size∧∀j,j<9→w.cell? ⟨g,i*9+j,none⟩=(rs[i]'o_m).enc[j]?:=by
 rcases h.2 with⟨_,h0⟩|⟨g,cap,cur,e1,_,e3,h1,h2,h3,h4⟩
 ·omega
 refine⟨g,cap,e1,lt_of_block e3,fun j hj=> ?_⟩
 rw[cell_of_row w g (i*9+j) _ _ (0,0) e3,←flat9_get rs i j o_m hj,←h4,List.getElem?_take,if_pos o_m]
 simp
theorem row9_form (h:w.ownsRow base 233 9 v n (flat9 rs)): ∃a c,v= .slice a n c:=by
 rcases Joins.ownsRow_forms h with⟨h1,h2⟩|⟨g,cap,h1⟩
 ·exact⟨none,0,by rw[h1,h2]⟩
 exact⟨_,cap,h1⟩
def Ap (v u:Value):Prop:=∀b,v.ownBlock=some b→u.ownBlock≠some b
theorem Ap.symm (h:Ap v u):Ap u v:=fun b hb hv=>h b hv hb
structure R3 (w:World) (s0:Nat) (v1 v2 v3:Value) (l1 l2 l3:List Mr):Prop where
 r1:w.ownsRow s0 233 9 v1 l1.length (flat9 l1)
 r2:w.ownsRow s0 233 9 v2 l2.length (flat9 l2)
 r3:w.ownsRow s0 233 9 v3 l3.length (flat9 l3)
 a12:Ap v1 v2
 a13:Ap v1 v3
 a23:Ap v2 v3
theorem gb_none (k:Below w.heap.size w w'):w.grownBy w' none:=⟨k.os,k.tape,k.output,k.size,fun i hi _=>k.block i hi⟩
theorem R3.below (h:R3 w s0 v1 v2 v3 l1 l2 l3)(k:Below w.heap.size w w'):R3 w' s0 v1 v2 v3 l1 l2 l3:=
 {h with r1:=own_below h.r1 k,r2:=own_below h.r2 k,r3:=own_below h.r3 k}
theorem Ap.ne (h:Ap v u):u.ownBlock=none∨u.ownBlock≠v.ownBlock:=by
 cases hu:u.ownBlock with
 |none=>exact .inl rfl
 |some b=>exact .inr (fun e=>h b e.symm hu)
theorem Ap.step {v':Value}(h:Ap v u)(hu:w.ownsRow base 233 9 u n (flat9 rs))(ha:v'.ownBlock=v.ownBlock∨v'.ownBlock=some w.heap.size):Ap v' u:=by
 intro b hb e
 rcases ha with ha|ha
 ·exact h b (ha▸hb) e
 rw[ha]at hb
 have:=(hu.lt b e).2
 cases hb
 omega
theorem R3.step {v':Value}{m:Mr}(h:R3 w s0 v1 v2 v3 l1 l2 l3)(ho:w'.ownsRow s0 233 9 v' (l1.length+1) (flat9 (l1++ [m])))(hg:w.grownBy w' v1.ownBlock)(ha:v'.ownBlock=v1.ownBlock∨v'.ownBlock=some w.heap.size):R3 w' s0 v' v2 v3 (l1++ [m]) l2 l3:=
 ⟨by rw[List.length_append,List.length_singleton];exact ho,h.r2.kept hg h.a12.ne,h.r3.kept hg h.a13.ne,h.a12.step h.r2 ha,h.a13.step h.r3 ha,h.a23⟩
theorem R3.swap (h:R3 w s0 v1 v2 v3 l1 l2 l3):R3 w s0 v2 v1 v3 l2 l1 l3:=⟨h.r2,h.r1,h.r3,h.a12.symm,h.a23,h.a13⟩
theorem R3.turn (h:R3 w s0 v1 v2 v3 l1 l2 l3):R3 w s0 v3 v2 v1 l3 l2 l1:=⟨h.r3,h.r2,h.r1,h.a23.symm,h.a13.symm,h.a12.symm⟩
def p1 (m:Mr):Bool:=m.n.kind==2
def p2 (m:Mr):Bool:=m.n.kind==3||m.n.kind==4
def p3 (m:Mr):Bool:=!(p1 m||p2 m)
theorem parted_n (h:w.ownsRow base 233 9 v n (flat9 rs))(hn:rs.length=n)(hb:n≤1048000)(hk: ∀m∈rs,m.x.kd=m.n.kind):
  Calls Tryz.prog 184 #[v] w fun e w'=> ∃v1 v2 v3,e= .returned (.tuple #[v1,v2,v3])∧R3 w' w.heap.size v1 v2 v3 (rs.filter p1) (rs.filter p2) (rs.filter p3)∧Below w.heap.size w w':=by
 obtain⟨av,cv,rfl⟩:=row9_form h
 go_enter Tryz.func184,Tryz.ntmps184
 go_wp2_with fail
 go_loopw [2,3,4,9] (fun v1 v2 v3 q wr=> ∃t:Nat,t≤n∧q= .int .i64 t∧Hid (R3 wr w.heap.size v1 v2 v3 ((rs.take t).filter p1) ((rs.take t).filter p2) ((rs.take t).filter p3))∧Hid (Below w.heap.size w wr)) (fun _ _ _ q _=>n-(intOf q).toNat)
 case atStart=>
  have hnl: ∀b,(Value.slice none 0 0).ownBlock≠some b:=fun b e=>by cases e
  exact⟨0,Nat.zero_le _,rfl,hide ⟨World.ownsRow_nil _ _ _ _,World.ownsRow_nil _ _ _ _,World.ownsRow_nil _ _ _ _,fun b _=>hnl b,fun b _=>hnl b,fun b _=>hnl b⟩,hide (Below.refl _ _)⟩
 case round=>
  obtain⟨t,ht,rfl,hR,kr⟩:=hrel
  by_cases htn:t<n
  ·obtain⟨g,cap,hsl,hgl,hcell⟩:=row9_cell (own_below h kr.out) hn htn
   injection hsl with ea eb ec
   subst ea ec
   have htk:Hid (rs.take (t+1)=rs.take t++ [rs[t]'o_m]):=hide (List.take_succ_eq_append_getElem o_m)
   have hkd:=hk (rs[t]'o_m) (List.getElem_mem _)
   generalize rs[t]'o_m=m at*
   obtain⟨i,⟨kd,sd,ad,ld,cd,ap,np,cp,sk,ak,lk,ck,vr,ka,kn,kc⟩,nd⟩:=m
   dsimp only at hkd
   have e0:=hcell 0 (by decide)
   have e1:=hcell 1 (by decide)
   have e2:=hcell 2 (by decide)
   have e3:=hcell 3 (by decide)
   have e4:=hcell 4 (by decide)
   have e5:=hcell 5 (by decide)
   have e6:=hcell 6 (by decide)
   have e7:=hcell 7 (by decide)
   have e8:=hcell 8 (by decide)
   clear hcell
   simp only[Mr.enc,mE,Nat.add_zero,List.getElem?_cons_zero,List.getElem?_cons_succ]at e0 e1 e2 e3 e4 e5 e6 e7 e8
   have _x1:M9B (wr.alloc (.cells #[.int .i64 i,.int .i64 kd,.bool sd,.slice ad ld cd,.slice ap np cp,.bool sk,.slice ak lk ck,.int .i64 vr,.slice ka kn kc] 233)) wr.heap.size i ⟨kd,sd,ad,ld,cd,ap,np,cp,sk,ak,lk,ck,vr,ka,kn,kc⟩:=heap_alloc_new wr _
   have b1:=below_alloc wr (.cells #[.int .i64 i,.int .i64 kd,.bool sd,.slice ad ld cd,.slice ap np cp,.bool sk,.slice ak lk ck,.int .i64 vr,.slice ka kn kc] 233)
   have zm2:M9B ((wr.alloc (.cells #[.int .i64 i,.int .i64 kd,.bool sd,.slice ad ld cd,.slice ap np cp,.bool sk,.slice ak lk ck,.int .i64 vr,.slice ka kn kc] 233)).alloc (.cells #[.int .i64 i,.int .i64 kd,.bool sd,.slice ad ld cd,.slice ap np cp,.bool sk,.slice ak lk ck,.int .i64 vr,.slice ka kn kc] 233)) (wr.alloc (.cells #[.int .i64 i,.int .i64 kd,.bool sd,.slice ad ld cd,.slice ap np cp,.bool sk,.slice ak lk ck,.int .i64 vr,.slice ka kn kc] 233)).heap.size i ⟨kd,sd,ad,ld,cd,ap,np,cp,sk,ak,lk,ck,vr,ka,kn,kc⟩:=heap_alloc_new _ _
   rw[show(wr.alloc (.cells #[.int .i64 i,.int .i64 kd,.bool sd,.slice ad ld cd,.slice ap np cp,.bool sk,.slice ak lk ck,.int .i64 vr,.slice ka kn kc] 233)).heap.size=wr.heap.size+1 from by simp]at zm2
   have b2:=below_alloc (wr.alloc (.cells #[.int .i64 i,.int .i64 kd,.bool sd,.slice ad ld cd,.slice ap np cp,.bool sk,.slice ak lk ck,.int .i64 vr,.slice ka kn kc] 233)) (.cells #[.int .i64 i,.int .i64 kd,.bool sd,.slice ad ld cd,.slice ap np cp,.bool sk,.slice ak lk ck,.int .i64 vr,.slice ka kn kc] 233)
   have hR2:=hide ((hR.out.below b1).below b2)
   have k2:=hide (grow_step b2 (grow_step b1 kr.out))
   have hs2:=k2.out.size
   have hlen:Hid ((rs.take t).length≤n):=hide (by rw[List.length_take];omega)
   replace zm2:=hide zm2
   clear b1 b2 hR kr _x1 h hk hn eb
   by_cases h2:nd.kind=2
   ·obtain rfl:kd=2:=by omega
    have f1: [(⟨i,⟨2,sd,ad,ld,cd,ap,np,cp,sk,ak,lk,ck,vr,ka,kn,kc⟩,nd⟩:Mr)].filter p1= [⟨i,⟨2,sd,ad,ld,cd,ap,np,cp,sk,ak,lk,ck,vr,ka,kn,kc⟩,nd⟩]:=by simp[p1,h2]
    have f2: [(⟨i,⟨2,sd,ad,ld,cd,ap,np,cp,sk,ak,lk,ck,vr,ka,kn,kc⟩,nd⟩:Mr)].filter p2= []:=by simp[p2,h2]
    have f3: [(⟨i,⟨2,sd,ad,ld,cd,ap,np,cp,sk,ak,lk,ck,vr,ka,kn,kc⟩,nd⟩:Mr)].filter p3= []:=by simp[p1,p2,p3,h2]
    replace f1:=hide f1
    replace f2:=hide f2
    replace f3:=hide f3
    clear hkd h2
    go_wp2_with(at_builtin;refine app9 rfl _ _ rfl w.heap.size _ _ _ rfl hR2.out.r1 ⟨i,⟨2,sd,ad,ld,cd,ap,np,cp,sk,ak,lk,ck,vr,ka,kn,kc⟩,nd⟩ (wr.heap.size+1) rfl zm2.out (by have h9:=hlen.out;have h8:=List.length_filter_le p1 (rs.take t);omega) hs2 ?_;intro v' w' ho hg ha)
    have hR3:=hide (hR2.out.step ho hg ha)
    have k3:=hide (k2.out.grown hg hs2 (fun k e=>(hR2.out.r1.lt k e).1))
    clear hR2 ho hg ha zm2 k2
    go_wp2_with fail
    exact⟨⟨t+1,by omega,by go_num,hide (by rw[htk.out,List.filter_append,List.filter_append,List.filter_append,f1.out,f2.out,f3.out,List.append_nil,List.append_nil];exact hR3.out),k3⟩,by simp[intOf];omega⟩
   by_cases h3:nd.kind=3∨nd.kind=4
   ·have h2b:(nd.kind==2)=false:=by simpa using h2
    obtain rfl|rfl:kd=3∨kd=4:=by omega
    ·have h3b:nd.kind=3:=by omega
     have f1: [(⟨i,⟨3,sd,ad,ld,cd,ap,np,cp,sk,ak,lk,ck,vr,ka,kn,kc⟩,nd⟩:Mr)].filter p1= []:=by simp[p1,h3b]
     have f2: [(⟨i,⟨3,sd,ad,ld,cd,ap,np,cp,sk,ak,lk,ck,vr,ka,kn,kc⟩,nd⟩:Mr)].filter p2= [⟨i,⟨3,sd,ad,ld,cd,ap,np,cp,sk,ak,lk,ck,vr,ka,kn,kc⟩,nd⟩]:=by simp[p2,h3b]
     have f3: [(⟨i,⟨3,sd,ad,ld,cd,ap,np,cp,sk,ak,lk,ck,vr,ka,kn,kc⟩,nd⟩:Mr)].filter p3= []:=by simp[p1,p2,p3,h3b]
     replace f1:=hide f1
     replace f2:=hide f2
     replace f3:=hide f3
     clear hkd h2 h3 h2b h3b
     go_wp2_with(at_builtin;refine app9 rfl _ _ rfl w.heap.size _ _ _ rfl hR2.out.r2 ⟨i,⟨3,sd,ad,ld,cd,ap,np,cp,sk,ak,lk,ck,vr,ka,kn,kc⟩,nd⟩ (wr.heap.size+1) rfl zm2.out (by have h9:=hlen.out;have h8:=List.length_filter_le p2 (rs.take t);omega) hs2 ?_;intro v' w' ho hg ha)
     have hR3:=hide ((hR2.out.swap.step ho hg ha).swap)
     have k3:=hide (k2.out.grown hg hs2 (fun k e=>(hR2.out.r2.lt k e).1))
     clear hR2 ho hg ha zm2 k2
     go_wp2_with fail
     exact⟨⟨t+1,by omega,by go_num,hide (by rw[htk.out,List.filter_append,List.filter_append,List.filter_append,f1.out,f2.out,f3.out,List.append_nil,List.append_nil];exact hR3.out),k3⟩,by simp[intOf];omega⟩
    have h3b:nd.kind=4:=by omega
    have f1: [(⟨i,⟨4,sd,ad,ld,cd,ap,np,cp,sk,ak,lk,ck,vr,ka,kn,kc⟩,nd⟩:Mr)].filter p1= []:=by simp[p1,h3b]
    have f2: [(⟨i,⟨4,sd,ad,ld,cd,ap,np,cp,sk,ak,lk,ck,vr,ka,kn,kc⟩,nd⟩:Mr)].filter p2= [⟨i,⟨4,sd,ad,ld,cd,ap,np,cp,sk,ak,lk,ck,vr,ka,kn,kc⟩,nd⟩]:=by simp[p2,h3b]
    have f3: [(⟨i,⟨4,sd,ad,ld,cd,ap,np,cp,sk,ak,lk,ck,vr,ka,kn,kc⟩,nd⟩:Mr)].filter p3= []:=by simp[p1,p2,p3,h3b]
    replace f1:=hide f1
    replace f2:=hide f2
    replace f3:=hide f3
    clear hkd h2 h3 h2b h3b
    go_wp2_with(at_builtin;refine app9 rfl _ _ rfl w.heap.size _ _ _ rfl hR2.out.r2 ⟨i,⟨4,sd,ad,ld,cd,ap,np,cp,sk,ak,lk,ck,vr,ka,kn,kc⟩,nd⟩ (wr.heap.size+1) rfl zm2.out (by have h9:=hlen.out;have h8:=List.length_filter_le p2 (rs.take t);omega) hs2 ?_;intro v' w' ho hg ha)
    have hR3:=hide ((hR2.out.swap.step ho hg ha).swap)
    have k3:=hide (k2.out.grown hg hs2 (fun k e=>(hR2.out.r2.lt k e).1))
    clear hR2 ho hg ha zm2 k2
    go_wp2_with fail
    exact⟨⟨t+1,by omega,by go_num,hide (by rw[htk.out,List.filter_append,List.filter_append,List.filter_append,f1.out,f2.out,f3.out,List.append_nil,List.append_nil];exact hR3.out),k3⟩,by simp[intOf];omega⟩
   have q2:(kd==2)=false:=by simp;omega
   have q3:(kd==3)=false:=by simp;omega
   have q4:(kd==4)=false:=by simp;omega
   have n3: ¬nd.kind=3:=fun e=>h3 (.inl e)
   have n4: ¬nd.kind=4:=fun e=>h3 (.inr e)
   have f1: [(⟨i,⟨kd,sd,ad,ld,cd,ap,np,cp,sk,ak,lk,ck,vr,ka,kn,kc⟩,nd⟩:Mr)].filter p1= []:=by simp[p1,h2]
   have f2: [(⟨i,⟨kd,sd,ad,ld,cd,ap,np,cp,sk,ak,lk,ck,vr,ka,kn,kc⟩,nd⟩:Mr)].filter p2= []:=by simp[p2,n3,n4]
   have f3: [(⟨i,⟨kd,sd,ad,ld,cd,ap,np,cp,sk,ak,lk,ck,vr,ka,kn,kc⟩,nd⟩:Mr)].filter p3= [⟨i,⟨kd,sd,ad,ld,cd,ap,np,cp,sk,ak,lk,ck,vr,ka,kn,kc⟩,nd⟩]:=by simp[p1,p2,p3,h2,n3,n4]
   replace f1:=hide f1
   replace f2:=hide f2
   replace f3:=hide f3
   clear hkd h2 h3 n3 n4
   go_wp2_with(at_builtin;refine app9 rfl _ _ rfl w.heap.size _ _ _ rfl hR2.out.r3 ⟨i,⟨kd,sd,ad,ld,cd,ap,np,cp,sk,ak,lk,ck,vr,ka,kn,kc⟩,nd⟩ (wr.heap.size+1) rfl zm2.out (by have h9:=hlen.out;have h8:=List.length_filter_le p3 (rs.take t);omega) hs2 ?_;intro v' w' ho hg ha)
   have hR3:=hide ((hR2.out.turn.step ho hg ha).turn)
   have k3:=hide (k2.out.grown hg hs2 (fun k e=>(hR2.out.r3.lt k e).1))
   clear hR2 ho hg ha zm2 k2
   go_wp2_with fail
   exact⟨⟨t+1,by omega,by go_num,hide (by rw[htk.out,List.filter_append,List.filter_append,List.filter_append,f1.out,f2.out,f3.out,List.append_nil,List.append_nil];exact hR3.out),k3⟩,by simp[intOf];omega⟩
  obtain rfl:t=n:=by omega
  rw[←hn,List.take_length]at hR
  clear h
  go_wp2_with fail
  refine bodyPost_ret (results_tmp3 rfl _ _ _) rfl ?_
  exact⟨_,_,_,rfl,hR.out,kr.out⟩
end Nt
namespace Nt

theorem infoI9 :(Tryz.prog.info? 3).map (fun i=>(i.zero,i.size,i.bytes))=some (some (.int .i64 0),1,8):=by kernel_rfl
theorem app_ii {w:World}{ops:Array Oper}{rest:List Oper}{o:Oper}{a:Act}{Q:Exit→Act→World→Prop}(hgd:o.guard=none)(s x:Operand)(ho:o.op= .call {callee:=.builtin .append,args:=#[s,x],argTypes:=#[33,33]})(base:Nat)(v:Value)(n:Nat)(xs:List Int)(hs:a.eval s=v)(hown:w.ownsRow base 3 1 v n (xs.map (Value.int .i64)))
  (ad:Option Addr)(m c:Nat)(l:List Int)(hx:a.eval x= .slice ad m c)(hm:0<m)(hI:IL w ad m l)(h63:n+m≤8589934592)(hbase:base≤w.heap.size)
  (h: ∀v' w',w'.ownsRow base 3 1 v' (n+m) ((xs++l).map (Value.int .i64))→w.grownBy w' v.ownBlock→(v'.ownBlock=v.ownBlock∨v'.ownBlock=some w.heap.size)→wpList Tryz.prog ops Q rest (a.put o.dst v') w'):wpList Tryz.prog ops Q (o::rest) a w:=by
 obtain⟨i0,hi,hz0,hz1,hz2⟩:=info_parts infoI9
 have hlen:=hI.1
 rcases hI.2 with h0|⟨b,off,rfl,hb,h2⟩
 ·omega
 have hc: ∀j u,(l.map (Value.int .i64))[j]? =some u→w.cell? ((⟨b,off,none⟩:Addr).add j)=some u:=by
  intro j u hu
  obtain⟨hj,rfl⟩:=List.getElem?_eq_some_iff.1 hu
  have hj2:j<l.length:=by simpa using hj
  rw[List.getElem_map,Addr.add_lit]
  exact(h2 j hj2).1
 refine wpList_append_own_at w hgd s x 33 ho base 3 i0 _ 1 8 Tryz.underlying33 hi hz0 hz1 hz2 rfl (by decide) v n (xs.map (Value.int .i64)) hs hown ⟨b,off,none⟩ m c (l.map (Value.int .i64)) hx (by rw[List.length_map,hlen];omega) hc (fun u hu=>by obtain⟨x,_,rfl⟩:=List.mem_map.1 hu;rfl) (by unfold maxLen;omega) o_m hbase ?_
 intro v' w' h1 h2 _ h4
 rw[←List.map_append]at h1
 exact h v' w' h1 h2 h4
structure SpM (w wr:World) (L:List Nd) (bm:Nat) (mv lv:Value) (rs:List Mr) (Sn Lf:List Int) (C:Nat→Prop) (D:DataW Value):Prop where
 nd: ∀m∈rs,m.n=ndI L m.id∧NC C wr m.x m.n 2097152
 mr:wr.ownsRow w.heap.size 233 9 mv rs.length (flat9 rs)
 lr:wr.ownsRow w.heap.size 3 1 lv Lf.length (Lf.map (Value.int .i64))
 mp:wr.ownsMap Tryz.prog 3 unitElem bm Sn.length D
 md: ∀x,I64 x→Maps.has D (.int .i64 x)=decide (x∈Sn)
 ap: ∀b,mv.ownBlock=some b→lv.ownBlock≠some b
 cb: ∀b,C b→b<wr.heap.size∧b≠bm∧mv.ownBlock≠some b∧lv.ownBlock≠some b
 mb:mv.ownBlock≠some bm
 lb:lv.ownBlock≠some bm
 bl:w.heap.size≤bm
 bs:bm<wr.heap.size
 k:Below w.heap.size w wr
 li: ∀x∈Lf,I64 x
variable {w wr w':World}{L:List Nd}{bm:Nat}{mv lv:Value}{rs:List Mr}{Sn Lf:List Int}{C:Nat→Prop}{D:DataW Value}
theorem SpM.grow (h:SpM w wr L bm mv lv rs Sn Lf C D)(k:Below wr.heap.size wr w'):SpM w w' L bm mv lv rs Sn Lf C D:=
 {h with
  nd:=fun m hm=>⟨(h.nd m hm).1,(h.nd m hm).2.move k.size (fun b _ hb=>k.block b hb) fun _ hb _=>hb⟩
  mr:=own_below h.mr k
  lr:=own_below h.lr k
  mp:=h.mp.kept (gb_none k) (by simp)
  cb:=fun b hb=>⟨Nat.lt_of_lt_of_le (h.cb b hb).1 k.size,(h.cb b hb).2⟩
  bs:=Nat.lt_of_lt_of_le h.bs k.size
  k:=grow_step k h.k}
theorem SpM.pop {x:Int}(h:SpM w wr L bm mv lv rs Sn (Lf++ [x]) C D): ∃g cap,lv= .slice (some ⟨g,0,none⟩) (Lf.length+1) cap∧g<wr.heap.size∧wr.cell? ⟨g,Lf.length,none⟩=some (.int .i64 x)∧I64 x∧Lf.length+1≤cap∧SpM w wr L bm mv (.slice (some ⟨g,0,none⟩) Lf.length cap) rs Sn Lf C D:=by
 have hx:=h.li x (by simp)
 have hlr:=h.lr
 rw[List.length_append,List.length_singleton]at hlr
 rcases hlr.2 with⟨_,h0⟩|⟨g,cap,cur,e1,e2,e3,e4,e5,e6,e7⟩
 ·omega
 subst e1
 refine⟨g,cap,rfl,lt_of_block e3,?_,hx,e4,{h with lr:=⟨by simp,.inr ⟨g,cap,cur,rfl,e2,e3,by omega,e5,e6,?_⟩⟩,li:=fun y hy=>h.li y (List.mem_append_left _ hy)}⟩
 ·rw[cell_of_row wr g Lf.length _ _ (0,0) e3]
  have:=congrArg (fun l=>l[Lf.length]?) e7
  simp at this
  rw[this]
 have:=congrArg (List.take Lf.length) e7
 rw[List.take_take]at this
 simp at this
 simpa using this
theorem SpM.seen {x:Int}(h:SpM w wr L bm mv lv rs Sn Lf C D)(hx:I64 x)(hm:w'.ownsMap Tryz.prog 3 unitElem bm (Sn.length+1) (D.put (.int .i64 x) (.agg [])))(hg:wr.grownBy w' (some bm)):SpM w w' L bm mv lv rs (x::Sn) Lf C (D.put (.int .i64 x) (.agg [])):=
 {h with
  nd:=fun m hm=>⟨(h.nd m hm).1,(h.nd m hm).2.move hg.size (fun b hb hl=>hg.block b hl (fun e=>(h.cb b hb).2.1 (Option.some.inj e))) fun _ hb _=>hb⟩
  mr:=h.mr.kept hg (.inr h.mb)
  lr:=h.lr.kept hg (.inr h.lb)
  mp:=hm
  md:=fun y hy=>by
   by_cases e:y=x
   ·subst e
    rw[Maps.has_put_same h.mp.isMap (isKey_i y hx)]
    simp
   rw[Maps.has_put_other (fun e2=>e (by injection e2)),h.md y hy]
   simp[e]
  cb:=fun b hb=>⟨Nat.lt_of_lt_of_le (h.cb b hb).1 hg.size,(h.cb b hb).2⟩
  bs:=Nat.lt_of_lt_of_le h.bs hg.size
  k:=h.k.grown hg h.k.size fun b hb=>by cases hb;exact h.bl}
theorem SpM.more {lv':Value}{l:List Int}(h:SpM w wr L bm mv lv rs Sn Lf C D)(ho:w'.ownsRow w.heap.size 3 1 lv' (Lf.length+l.length) ((Lf++l).map (Value.int .i64)))(hg:wr.grownBy w' lv.ownBlock)(ha:lv'.ownBlock=lv.ownBlock∨lv'.ownBlock=some wr.heap.size)(hl: ∀x∈l,I64 x):SpM w w' L bm mv lv' rs Sn (Lf++l) C D:=by
 have hne: ∀b,b<wr.heap.size→lv.ownBlock≠some b→lv'.ownBlock≠some b:=fun b hb h1 h2=>by
  rcases ha with ha|ha
  ·exact h1 (ha▸h2)
  rw[ha]at h2
  cases h2
  omega
 exact
 {h with
  nd:=fun m hm=>⟨(h.nd m hm).1,(h.nd m hm).2.move hg.size (fun b hb hl=>hg.block b hl (fun e=>(h.cb b hb).2.2.2 e.symm)) fun _ hb _=>hb⟩
  mr:=h.mr.kept hg (by
   cases hm:mv.ownBlock with
   |none=>exact .inl rfl
   |some b=>exact .inr fun e=>h.ap b hm e.symm)
  lr:=by rw[List.length_append];exact ho
  mp:=h.mp.kept hg (fun e=>h.lb e.symm)
  ap:=fun b hb=>hne b (h.mr.lt b hb).2 (h.ap b hb)
  cb:=fun b hb=>⟨Nat.lt_of_lt_of_le (h.cb b hb).1 hg.size,(h.cb b hb).2.1,(h.cb b hb).2.2.1,hne b (h.cb b hb).1 (h.cb b hb).2.2.2⟩
  lb:=hne bm h.bs h.lb
  bs:=Nat.lt_of_lt_of_le h.bs hg.size
  k:=h.k.grown hg h.k.size fun b hb=>(h.lr.lt b hb).1
  li:=fun x hx=>(List.mem_append.1 hx).elim (h.li x) (hl x)}
theorem SpM.put {mv':Value}{m:Mr}{G:Nat→Prop}(h:SpM w wr L bm mv lv rs Sn Lf C D)(hn:m.n=ndI L m.id)(hN:NC G wr m.x m.n 2097152)(hG: ∀b,G b→b<wr.heap.size∧b≠bm∧mv.ownBlock≠some b∧lv.ownBlock≠some b)
  (ho:w'.ownsRow w.heap.size 233 9 mv' (rs.length+1) (flat9 (rs++ [m])))(hg:wr.grownBy w' mv.ownBlock)(ha:mv'.ownBlock=mv.ownBlock∨mv'.ownBlock=some wr.heap.size):SpM w w' L bm mv' lv (rs++ [m]) Sn Lf (fun b=>C b∨G b) D:=by
 have hne: ∀b,b<wr.heap.size→mv.ownBlock≠some b→mv'.ownBlock≠some b:=fun b hb h1 h2=>by
  rcases ha with ha|ha
  ·exact h1 (ha▸h2)
  rw[ha]at h2
  cases h2
  omega
 have hcg: ∀b,C b∨G b→b<wr.heap.size∧b≠bm∧mv.ownBlock≠some b∧lv.ownBlock≠some b:=fun b hb=>hb.elim (h.cb b) (hG b)
 exact
 {h with
  nd:=fun y hy=>(List.mem_append.1 hy).elim (fun hy=>⟨(h.nd y hy).1,(h.nd y hy).2.move hg.size (fun b hb hl=>hg.block b hl (fun e=>(h.cb b hb).2.2.1 e.symm)) fun _ hb _=> .inl hb⟩) fun hy=>by
   rw[List.mem_singleton.1 hy]
   exact⟨hn,hN.move hg.size (fun b hb hl=>hg.block b hl (fun e=>(hG b hb).2.2.1 e.symm)) fun _ hb _=> .inr hb⟩
  mr:=by rw[List.length_append];exact ho
  lr:=h.lr.kept hg (by
   cases hm:lv.ownBlock with
   |none=>exact .inl rfl
   |some b=>exact .inr fun e=>h.ap b e.symm hm)
  mp:=h.mp.kept hg (fun e=>h.mb e.symm)
  ap:=fun b hb hl=>by
   have h1:=(h.lr.lt b hl).2
   exact hne b h1 (fun e=>h.ap b e hl) hb
  cb:=fun b hb=>⟨Nat.lt_of_lt_of_le (hcg b hb).1 hg.size,(hcg b hb).2.1,hne b (hcg b hb).1 (hcg b hb).2.2.1,(hcg b hb).2.2.2⟩
  mb:=hne bm h.bs h.mb
  bs:=Nat.lt_of_lt_of_le h.bs hg.size
  k:=h.k.grown hg h.k.size fun b hb=>(h.mr.lt b hb).1}
end Nt
namespace Nt

variable {rs:List Mr}{s:Nat}
def mr0 :Mr:=⟨0,⟨0,false,none,0,0,none,0,0,false,none,0,0,0,none,0,0⟩,⟨0,0,[],0,0,[]⟩⟩
def gm (rs:List Mr)(s:Nat):Mr:=rs.getD s mr0
theorem gm_get (h:s<rs.length):gm rs s=rs[s]:=by
 unfold gm
 rw[List.getD_eq_getElem?_getD,List.getElem?_eq_getElem h]
 rfl
theorem gm_mem (h:s<rs.length):gm rs s∈rs:=by rw[gm_get h];exact List.getElem_mem h
def HP (ord:Mr→Mr→Int)(mat:Mr→Mr→Bool)(rs:List Mr)(t:Nat):Prop:=∃a b,a<b∧b<rs.length∧t≤a∧(∀k,a<k→k≤b→ord (gm rs a) (gm rs k)=0)∧mat (gm rs a) (gm rs b)=true
theorem hp_next {ord:Mr→Mr→Int}{mat:Mr→Mr→Bool}{t:Nat}(hz: ∀k,t<k→k≤t+s→ord (gm rs t) (gm rs k)=0∧mat (gm rs t) (gm rs k)=false)(he:t+s+1=rs.length∨ord (gm rs t) (gm rs (t+s+1))≠0):HP ord mat rs t↔HP ord mat rs (t+1):=by
 constructor
 ·rintro⟨a,b,hab,hb,hta,h1,h2⟩
  refine⟨a,b,hab,hb,?_,h1,h2⟩
  rcases Nat.lt_or_ge t a with h|h
  ·exact h
  obtain rfl:a=t:=by omega
  exfalso
  by_cases hbs:b≤a+s
  ·rw[(hz b hab hbs).2]at h2
   cases h2
  rcases he with he|he
  ·omega
  exact he (h1 (a+s+1) o_m o_m)
 rintro⟨a,b,hab,hb,hta,h1,h2⟩
 exact⟨a,b,hab,hb,by omega,h1,h2⟩

theorem hasPair_n {w:World}{base n K1 K2:Nat}{c1 c2:Array Value}{v:Value}{ord:Mr→Mr→Int}{mat:Mr→Mr→Bool}(h:w.ownsRow base 233 9 v n (flat9 rs))(hn:rs.length=n)(hb:n≤1048000)
  (eg1: ∀args w,(callFunc K1 args).run Tryz.prog w= .ok (.enter K1 args) w)(eg2: ∀args w,(callFunc K2 args).run Tryz.prog w= .ok (.enter K2 args) w)
  (h1: ∀w' (x y:Mr),x∈rs→y∈rs→Below w.heap.size w w'→Calls Tryz.prog K1 (#[.agg (mE x.id x.x),.agg (mE y.id y.x)]++c1) w' fun e w''=>e= .returned (.int .i64 (ord x y))∧Below w'.heap.size w' w'')
  (h2: ∀w' (x y:Mr),x∈rs→y∈rs→Below w.heap.size w w'→Calls Tryz.prog K2 (#[.agg (mE x.id x.x),.agg (mE y.id y.x)]++c2) w' fun e w''=>e= .returned (.bool (mat x y))∧Below w'.heap.size w' w''):
  Calls Tryz.prog 215 #[v,.func (.func K1) #[] c1,.func (.func K2) #[] c2] w fun e w'=> ∃b,e= .returned (.bool b)∧(b=true↔HP ord mat rs 0)∧Below w.heap.size w w':=by
 have hcy:Hid (∀s,s<n→∃g cap,v= .slice (some ⟨g,0,none⟩) n cap∧g<w.heap.size∧n≤cap∧∀w',Below w.heap.size w w'→∀j,j<9→w'.cell? ⟨g,s*9+j,none⟩=(gm rs s).enc[j]?):=hide fun s hs=>by
  rw[gm_get o_m]
  obtain⟨g,cap,e,hg,hc⟩:=row9_cell h hn hs
  refine⟨g,cap,e,hg,?_,fun w' k j hj=>(k.cell (p:=⟨g,_,none⟩) hg).trans (hc j hj)⟩
  rcases h.2 with⟨_,h0⟩|⟨g',cap',cur,e1,_,e3,h1,_⟩
  ·omega
  rw[e]at e1
  cases e1
  exact h1
 have hC1:Hid (∀t s w',t<n→s<n→Below w.heap.size w w'→Calls Tryz.prog K1 (#[.agg (mE (gm rs t).id (gm rs t).x),.agg (mE (gm rs s).id (gm rs s).x)]++c1) w' fun e w''=>e= .returned (.int .i64 (ord (gm rs t) (gm rs s)))∧Below w'.heap.size w' w''):=hide fun t s w' ht hs k=>h1 w' _ _ (gm_mem o_m) (gm_mem o_m) k
 have hC2:Hid (∀t s w',t<n→s<n→Below w.heap.size w w'→Calls Tryz.prog K2 (#[.agg (mE (gm rs t).id (gm rs t).x),.agg (mE (gm rs s).id (gm rs s).x)]++c2) w' fun e w''=>e= .returned (.bool (mat (gm rs t) (gm rs s)))∧Below w'.heap.size w' w''):=hide fun t s w' ht hs k=>h2 w' _ _ (gm_mem o_m) (gm_mem o_m) k
 have hend:Hid (¬HP ord mat rs n):=hide fun⟨a,b,h3,h4,h5,_⟩=>by omega
 obtain⟨av,cv,rfl⟩:=row9_form h
 clear h h1 h2
 replace hn:=hide hn
 go_enter Tryz.func215,Tryz.ntmps215
 go_wp2_with fail
 go_step3
 go_wp2_with fail
 go_step3
 go_wp2_with fail
 go_loopw [7,14] (fun f q wr=> ∃t:Nat,t≤n∧f= .bool false∧q= .int .i64 t∧Hid (HP ord mat rs 0↔HP ord mat rs t)∧Hid (Below w.heap.size w wr)) (fun _ q _=>n-(intOf q).toNat)
 case atStart=>exact⟨0,Nat.zero_le _,rfl,rfl,hide Iff.rfl,hide (Below.refl _ _)⟩
 case round=>
  obtain⟨t,ht,rfl,rfl,hP,kr⟩:=hrel
  by_cases htn:t<n
  ·obtain⟨g,cap,hsl,hgw,hcap,hcell⟩:=hcy.out t htn
   injection hsl with ea eb ec
   subst ea ec
   clear eb
   have hc:=hcell wr kr.out
   have e0:=hc 0 (by decide)
   have e1:=hc 1 (by decide)
   have e2:=hc 2 (by decide)
   have e3:=hc 3 (by decide)
   have e4:=hc 4 (by decide)
   have e5:=hc 5 (by decide)
   have e6:=hc 6 (by decide)
   have e7:=hc 7 (by decide)
   have e8:=hc 8 (by decide)
   clear hc hcell
   have hnx:Hid (∀s,(∀k,t<k→k≤t+s→ord (gm rs t) (gm rs k)=0∧mat (gm rs t) (gm rs k)=false)→(t+s+1=n∨ord (gm rs t) (gm rs (t+s+1))≠0)→(HP ord mat rs 0↔HP ord mat rs (t+1))):=hide fun s hz he=>hP.out.trans (hp_next hz (he.imp (fun e=>e.trans hn.out.symm) id))
   have hyes:Hid (∀s,t+s+1<n→(∀k,t<k→k≤t+s→ord (gm rs t) (gm rs k)=0∧mat (gm rs t) (gm rs k)=false)→ord (gm rs t) (gm rs (t+s+1))=0→mat (gm rs t) (gm rs (t+s+1))=true→HP ord mat rs 0):=hide fun s hs hz h3 h4=>hP.out.2 ⟨t,t+s+1,by omega,by have:=hn.out;omega,Nat.le_refl _,fun k h5 h6=>by
    by_cases h7:k≤t+s
    ·exact(hz k h5 h7).1
    obtain rfl:k=t+s+1:=by omega
    exact h3,h4⟩
   have hD1:Hid (∀s w',s<n→Below w.heap.size w w'→Calls Tryz.prog K1 (#[.agg (mE (gm rs t).id (gm rs t).x),.agg (mE (gm rs s).id (gm rs s).x)]++c1) w' fun e w''=>e= .returned (.int .i64 (ord (gm rs t) (gm rs s)))∧Below w'.heap.size w' w''):=hide fun s w' hs k=>hC1.out t s w' htn hs k
   have hD2:Hid (∀s w',s<n→Below w.heap.size w w'→Calls Tryz.prog K2 (#[.agg (mE (gm rs t).id (gm rs t).x),.agg (mE (gm rs s).id (gm rs s).x)]++c2) w' fun e w''=>e= .returned (.bool (mat (gm rs t) (gm rs s)))∧Below w'.heap.size w' w''):=hide fun s w' hs k=>hC2.out t s w' htn hs k
   generalize gm rs t=mx at*
   obtain⟨i,⟨kd1,sd1,ad1,ld1,cd1,ap1,np1,cp1,sk1,ak1,lk1,ck1,vr1,ka1,kn1,kc1⟩,nx⟩:=mx
   simp only[Mr.enc,mE,Nat.add_zero,List.getElem?_cons_zero,List.getElem?_cons_succ]at e0 e1 e2 e3 e4 e5 e6 e7 e8
   have b1:=below_alloc wr (.cells #[.int .i64 i,.int .i64 kd1,.bool sd1,.slice ad1 ld1 cd1,.slice ap1 np1 cp1,.bool sk1,.slice ak1 lk1 ck1,.int .i64 vr1,.slice ka1 kn1 kc1] 233)
   have k1:=hide (grow_step b1 kr.out)
   have x1:Hid (M9B (wr.alloc (.cells #[.int .i64 i,.int .i64 kd1,.bool sd1,.slice ad1 ld1 cd1,.slice ap1 np1 cp1,.bool sk1,.slice ak1 lk1 ck1,.int .i64 vr1,.slice ka1 kn1 kc1] 233)) wr.heap.size i ⟨kd1,sd1,ad1,ld1,cd1,ap1,np1,cp1,sk1,ak1,lk1,ck1,vr1,ka1,kn1,kc1⟩):=hide (heap_alloc_new wr _)
   clear b1
   by_cases hcv:t+1=cv
   ·have hn2:=hide (hnx.out 0 (fun k h3 h4=>by omega) (.inl o_m))
    obtain rfl:n=t+1:=by omega
    subst hcv
    clear hnx hyes hD1 hD2
    go_wp2_with fail
    go_loopw [7,24] (fun f q wi=>f= .bool false∧q= .int .i64 0∧Hid (Below w.heap.size w wi)) (fun _ _ _=>0)
    case atStart=>exact⟨rfl,rfl,k1⟩
    case round=>
     obtain⟨rfl,rfl,ki⟩:=hrel
     go_wp2_with fail
     exact⟨⟨t+1,by omega,rfl,by go_num,hn2,ki⟩,by simp[intOf]⟩
   have hcv2:t+1<cv:=by omega
   clear hcv
   go_wp2_with fail
   generalize wr.alloc (.cells #[.int .i64 i,.int .i64 kd1,.bool sd1,.slice ad1 ld1 cd1,.slice ap1 np1 cp1,.bool sk1,.slice ak1 lk1 ck1,.int .i64 vr1,.slice ka1 kn1 kc1] 233)=wa at*
   generalize hpp:wr.heap.size=p at*
   replace hpp:=hide hpp
   go_loopw [7,24] (fun f q wi=> ∃s:Nat,t+s+1≤n∧f= .bool false∧q= .int .i64 s∧Hid (∀k,t<k→k≤t+s→ord ⟨i,⟨kd1,sd1,ad1,ld1,cd1,ap1,np1,cp1,sk1,ak1,lk1,ck1,vr1,ka1,kn1,kc1⟩,nx⟩ (gm rs k)=0∧mat ⟨i,⟨kd1,sd1,ad1,ld1,cd1,ap1,np1,cp1,sk1,ak1,lk1,ck1,vr1,ka1,kn1,kc1⟩,nx⟩ (gm rs k)=false)∧Hid (Below w.heap.size w wi)∧Hid (M9B wi p i ⟨kd1,sd1,ad1,ld1,cd1,ap1,np1,cp1,sk1,ak1,lk1,ck1,vr1,ka1,kn1,kc1⟩)) (fun _ q _=>n-(intOf q).toNat)
   case atStart=>exact⟨0,by omega,rfl,rfl,hide (fun k h3 h4=>by omega),k1,x1⟩
   case round=>
    clear k1 x1 e0 e1 e2 e3 e4 e5 e6 e7 e8 kr
    obtain⟨s,hs,rfl,rfl,hz,ki,xi⟩:=hrel
    by_cases hsn:t+s+1<n
    ·obtain⟨g',cap',hsl,_,_,hyc'⟩:=hcy.out (t+s+1) hsn
     injection hsl with ea eb ec
     injection ea with ea
     injection ea with ea
     subst ea
     have hyc:=hyc' wr ki.out
     rw[show(t+s+1)*9=(t+1)*9+s*9 by omega]at hyc
     have f0:=hyc 0 (by decide)
     have f1:=hyc 1 (by decide)
     have f2:=hyc 2 (by decide)
     have f3:=hyc 3 (by decide)
     have f4:=hyc 4 (by decide)
     have f5:=hyc 5 (by decide)
     have f6:=hyc 6 (by decide)
     have f7:=hyc 7 (by decide)
     have f8:=hyc 8 (by decide)
     clear hyc hyc' eb ec
     have hD:=hide (hD1.out (t+s+1))
     have hE:=hide (hD2.out (t+s+1))
     have hnx1:=hide (fun h3=>hnx.out s hz.out (.inr h3))
     have hyes1:=hide (hyes.out s hsn hz.out)
     have hzs:Hid (ord ⟨i,⟨kd1,sd1,ad1,ld1,cd1,ap1,np1,cp1,sk1,ak1,lk1,ck1,vr1,ka1,kn1,kc1⟩,nx⟩ (gm rs (t+s+1))=0→mat ⟨i,⟨kd1,sd1,ad1,ld1,cd1,ap1,np1,cp1,sk1,ak1,lk1,ck1,vr1,ka1,kn1,kc1⟩,nx⟩ (gm rs (t+s+1))=false→∀k,t<k→k≤t+(s+1)→ord ⟨i,⟨kd1,sd1,ad1,ld1,cd1,ap1,np1,cp1,sk1,ak1,lk1,ck1,vr1,ka1,kn1,kc1⟩,nx⟩ (gm rs k)=0∧mat ⟨i,⟨kd1,sd1,ad1,ld1,cd1,ap1,np1,cp1,sk1,ak1,lk1,ck1,vr1,ka1,kn1,kc1⟩,nx⟩ (gm rs k)=false):=hide fun h3 h4 k h5 h6=>by
      by_cases h7:k≤t+s
      ·exact hz.out k h5 h7
      obtain rfl:k=t+s+1:=by omega
      exact⟨h3,h4⟩
     generalize gm rs (t+s+1)=my at*
     obtain⟨j,⟨kd2,sd2,ad2,ld2,cd2,ap2,np2,cp2,sk2,ak2,lk2,ck2,vr2,ka2,kn2,kc2⟩,ny⟩:=my
     simp only[Mr.enc,mE,Nat.add_zero,List.getElem?_cons_zero,List.getElem?_cons_succ]at f0 f1 f2 f3 f4 f5 f6 f7 f8
     have b2:=below_alloc wr (.cells #[.int .i64 j,.int .i64 kd2,.bool sd2,.slice ad2 ld2 cd2,.slice ap2 np2 cp2,.bool sk2,.slice ak2 lk2 ck2,.int .i64 vr2,.slice ka2 kn2 kc2] 233)
     have k2:=hide (grow_step b2 ki.out)
     have x2:=hide (xi.out.below b2)
     have y2:Hid (M9B (wr.alloc (.cells #[.int .i64 j,.int .i64 kd2,.bool sd2,.slice ad2 ld2 cd2,.slice ap2 np2 cp2,.bool sk2,.slice ak2 lk2 ck2,.int .i64 vr2,.slice ka2 kn2 kc2] 233)) wr.heap.size j ⟨kd2,sd2,ad2,ld2,cd2,ap2,np2,cp2,sk2,ak2,lk2,ck2,vr2,ka2,kn2,kc2⟩):=hide (heap_alloc_new wr _)
     have hDc:=hide (hD.out (wr.alloc (.cells #[.int .i64 j,.int .i64 kd2,.bool sd2,.slice ad2 ld2 cd2,.slice ap2 np2 cp2,.bool sk2,.slice ak2 lk2 ck2,.int .i64 vr2,.slice ka2 kn2 kc2] 233)) hsn k2.out)
     generalize hov:ord ⟨i,⟨kd1,sd1,ad1,ld1,cd1,ap1,np1,cp1,sk1,ak1,lk1,ck1,vr1,ka1,kn1,kc1⟩,nx⟩ ⟨j,⟨kd2,sd2,ad2,ld2,cd2,ap2,np2,cp2,sk2,ak2,lk2,ck2,vr2,ka2,kn2,kc2⟩,ny⟩=ov at*
     generalize hmv:mat ⟨i,⟨kd1,sd1,ad1,ld1,cd1,ap1,np1,cp1,sk1,ak1,lk1,ck1,vr1,ka1,kn1,kc1⟩,nx⟩ ⟨j,⟨kd2,sd2,ad2,ld2,cd2,ap2,np2,cp2,sk2,ak2,lk2,ck2,vr2,ka2,kn2,kc2⟩,ny⟩=mv at*
     clear hov hmv b2 hD hnx hyes hz
     simp only[mE]at hDc hE
     have u0:(wr.alloc (.cells #[.int .i64 j,.int .i64 kd2,.bool sd2,.slice ad2 ld2 cd2,.slice ap2 np2 cp2,.bool sk2,.slice ak2 lk2 ck2,.int .i64 vr2,.slice ka2 kn2 kc2] 233)).cell? ⟨p,0,none⟩=some (.int .i64 i):=x2.out.c 0
     have u1:(wr.alloc (.cells #[.int .i64 j,.int .i64 kd2,.bool sd2,.slice ad2 ld2 cd2,.slice ap2 np2 cp2,.bool sk2,.slice ak2 lk2 ck2,.int .i64 vr2,.slice ka2 kn2 kc2] 233)).cell? ⟨p,1,none⟩=some (.int .i64 kd1):=x2.out.c 1
     have u2:(wr.alloc (.cells #[.int .i64 j,.int .i64 kd2,.bool sd2,.slice ad2 ld2 cd2,.slice ap2 np2 cp2,.bool sk2,.slice ak2 lk2 ck2,.int .i64 vr2,.slice ka2 kn2 kc2] 233)).cell? ⟨p,2,none⟩=some (.bool sd1):=x2.out.c 2
     have u3:(wr.alloc (.cells #[.int .i64 j,.int .i64 kd2,.bool sd2,.slice ad2 ld2 cd2,.slice ap2 np2 cp2,.bool sk2,.slice ak2 lk2 ck2,.int .i64 vr2,.slice ka2 kn2 kc2] 233)).cell? ⟨p,3,none⟩=some (.slice ad1 ld1 cd1):=x2.out.c 3
     have u4:(wr.alloc (.cells #[.int .i64 j,.int .i64 kd2,.bool sd2,.slice ad2 ld2 cd2,.slice ap2 np2 cp2,.bool sk2,.slice ak2 lk2 ck2,.int .i64 vr2,.slice ka2 kn2 kc2] 233)).cell? ⟨p,4,none⟩=some (.slice ap1 np1 cp1):=x2.out.c 4
     have u5:(wr.alloc (.cells #[.int .i64 j,.int .i64 kd2,.bool sd2,.slice ad2 ld2 cd2,.slice ap2 np2 cp2,.bool sk2,.slice ak2 lk2 ck2,.int .i64 vr2,.slice ka2 kn2 kc2] 233)).cell? ⟨p,5,none⟩=some (.bool sk1):=x2.out.c 5
     have u6:(wr.alloc (.cells #[.int .i64 j,.int .i64 kd2,.bool sd2,.slice ad2 ld2 cd2,.slice ap2 np2 cp2,.bool sk2,.slice ak2 lk2 ck2,.int .i64 vr2,.slice ka2 kn2 kc2] 233)).cell? ⟨p,6,none⟩=some (.slice ak1 lk1 ck1):=x2.out.c 6
     have u7:(wr.alloc (.cells #[.int .i64 j,.int .i64 kd2,.bool sd2,.slice ad2 ld2 cd2,.slice ap2 np2 cp2,.bool sk2,.slice ak2 lk2 ck2,.int .i64 vr2,.slice ka2 kn2 kc2] 233)).cell? ⟨p,7,none⟩=some (.int .i64 vr1):=x2.out.c 7
     have u8:(wr.alloc (.cells #[.int .i64 j,.int .i64 kd2,.bool sd2,.slice ad2 ld2 cd2,.slice ap2 np2 cp2,.bool sk2,.slice ak2 lk2 ck2,.int .i64 vr2,.slice ka2 kn2 kc2] 233)).cell? ⟨p,8,none⟩=some (.slice ka1 kn1 kc1):=x2.out.c 8
     have hlt:(s:Int)<((n-(t+1):Nat):Int):=by omega
     go_wp2_with fail
     refine hDc.out.mono ?_
     rintro e w3 ⟨rfl,k3⟩
     have k23:=hide (grow_step k3 k2.out)
     clear hDc k2 u0 u1 u2 u3 u4 u5 u6 u7 u8 f0 f1 f2 f3 f4 f5 f6 f7 f8
     by_cases ho:ov=0
     ·have x3:=hide (x2.out.below k3)
      have y3:=hide (y2.out.below k3)
      have u0:w3.cell? ⟨p,0,none⟩=some (.int .i64 i):=x3.out.c 0
      have u1:w3.cell? ⟨p,1,none⟩=some (.int .i64 kd1):=x3.out.c 1
      have u2:w3.cell? ⟨p,2,none⟩=some (.bool sd1):=x3.out.c 2
      have u3:w3.cell? ⟨p,3,none⟩=some (.slice ad1 ld1 cd1):=x3.out.c 3
      have u4:w3.cell? ⟨p,4,none⟩=some (.slice ap1 np1 cp1):=x3.out.c 4
      have u5:w3.cell? ⟨p,5,none⟩=some (.bool sk1):=x3.out.c 5
      have u6:w3.cell? ⟨p,6,none⟩=some (.slice ak1 lk1 ck1):=x3.out.c 6
      have u7:w3.cell? ⟨p,7,none⟩=some (.int .i64 vr1):=x3.out.c 7
      have u8:w3.cell? ⟨p,8,none⟩=some (.slice ka1 kn1 kc1):=x3.out.c 8
      have v0:w3.cell? ⟨wr.heap.size,0,none⟩=some (.int .i64 j):=y3.out.c 0
      have v1:w3.cell? ⟨wr.heap.size,1,none⟩=some (.int .i64 kd2):=y3.out.c 1
      have v2:w3.cell? ⟨wr.heap.size,2,none⟩=some (.bool sd2):=y3.out.c 2
      have v3:w3.cell? ⟨wr.heap.size,3,none⟩=some (.slice ad2 ld2 cd2):=y3.out.c 3
      have v4:w3.cell? ⟨wr.heap.size,4,none⟩=some (.slice ap2 np2 cp2):=y3.out.c 4
      have v5:w3.cell? ⟨wr.heap.size,5,none⟩=some (.bool sk2):=y3.out.c 5
      have v6:w3.cell? ⟨wr.heap.size,6,none⟩=some (.slice ak2 lk2 ck2):=y3.out.c 6
      have v7:w3.cell? ⟨wr.heap.size,7,none⟩=some (.int .i64 vr2):=y3.out.c 7
      have v8:w3.cell? ⟨wr.heap.size,8,none⟩=some (.slice ka2 kn2 kc2):=y3.out.c 8
      have hEc:=hide (hE.out w3 hsn k23.out)
      have hyes2:=hide (hyes1.out ho)
      have hzs2:=hide (hzs.out ho)
      subst ho
      clear k3 x2 y2 hE hyes1 hzs hnx1
      go_wp2_with fail
      refine hEc.out.mono ?_
      rintro e w4 ⟨rfl,k4⟩
      have k24:=hide (grow_step k4 k23.out)
      have x4:=hide (x3.out.below k4)
      clear u0 u1 u2 u3 u4 u5 u6 u7 u8 v0 v1 v2 v3 v4 v5 v6 v7 v8 hEc k4 k23 x3 y3
      cases mv with
      |true=>
       have hyy:=hide (hyes2.out rfl)
       clear hyes2 hzs2
       go_wp2_with fail
       rw[Exit.noGoto_ret]
       go_ret
       exact⟨true,rfl,⟨fun _=>hyy.out,fun _=>rfl⟩,k24.out⟩
      |false=>
       have hzz:=hide (hzs2.out rfl)
       clear hyes2 hzs2
       go_wp2_with fail
       exact⟨⟨s+1,by omega,rfl,by go_num,hzz,k24,x4⟩,by simp[intOf];omega⟩
     have hn2:=hide (hnx1.out ho)
     have hob:(ov !=0)=true:=by simpa using ho
     clear x2 y2 hE hyes1 hzs hnx1 k3
     go_wp2_with fail
     exact⟨⟨t+1,by omega,rfl,by go_num,hn2,k23⟩,by simp[intOf];omega⟩
    have hsn2:t+s+1=n:=by omega
    have hn2:=hide (hnx.out s hz.out (.inl hsn2))
    have hlt: ¬(s:Int)<((n-(t+1):Nat):Int):=by omega
    clear hnx hyes hD1 hD2
    go_wp2_with fail
    exact⟨⟨t+1,by omega,rfl,by go_num,hn2,ki⟩,by simp[intOf];omega⟩
  obtain rfl:t=n:=by omega
  have hno: ¬HP ord mat rs 0:=fun h3=>hend.out (hP.out.1 h3)
  clear hcy hC1 hC2
  go_wp2_with fail
  first|go_ret|(rw[Exit.noGoto_ret];go_ret)
  exact⟨false,rfl,⟨fun h3=>(by cases h3),fun h3=>absurd h3 hno⟩,kr.out⟩
end Nt
namespace Nt

variable {w:World}{g cap:Nat}{rs:List Mr}{cur:Array Value}
structure RB9 (w:World) (g cap:Nat) (rs:List Mr) (cur:Array Value):Prop where
 b:w.heap[g]? =some (.cells cur 233 (0,0))
 s:cur.size=cap*9
 l:rs.length≤cap
 r:cur.toList.take (rs.length*9)=flat9 rs
theorem RB9.get (h:RB9 w g cap rs cur){i c:Nat}(hi:i<rs.length)(hc:c<9):cur[i*9+c]? =rs[i].enc[c]?:=by
 rw[←flat9_get rs i c hi hc,←h.r,List.getElem?_take,if_pos o_m]
 simp
theorem RB9.cell (h:RB9 w g cap rs cur){i c:Nat}(hi:i<rs.length)(hc:c<9):w.cell? ⟨g,i*9+c,none⟩=rs[i].enc[c]? :=
 (cell_of_row w g (i*9+c) _ _ (0,0) h.b).trans (h.get hi hc)
theorem RB9.below {w':World}(h:RB9 w g cap rs cur)(k:Below w.heap.size w w'):RB9 w' g cap rs cur:=⟨(k.block g (lt_of_block h.b)).trans h.b,h.s,h.l,h.r⟩
theorem rb9_of (h: ∀i (hi:i<rs.length) c,c<9→cur[i*9+c]? =rs[i].enc[c]?):cur.toList.take (rs.length*9)=flat9 rs:=by
 apply List.ext_getElem?
 intro j
 by_cases hj:j<rs.length*9
 ·have h1:=h (j / 9) o_m (j%9) (Nat.mod_lt _ (by decide))
  have h2:=flat9_get rs (j / 9) (j%9) o_m (Nat.mod_lt _ (by decide))
  rw[show j / 9*9+j%9=j by omega]at h1 h2
  rw[List.getElem?_take,if_pos hj,h2,←h1]
  simp
 rw[List.getElem?_take,if_neg hj,List.getElem?_eq_none (by rw[flat9_length];omega)]
def set9 (cur:Array Value)(k:Nat)(m:Mr):Array Value:=
 ((((((((cur.setIfInBounds (k*9) (.int .i64 m.id)).setIfInBounds (k*9+1) (.int .i64 m.x.kd)).setIfInBounds (k*9+2) (.bool m.x.sd)).setIfInBounds (k*9+3) (.slice m.x.ad m.x.ld m.x.cd)).setIfInBounds (k*9+4) (.slice m.x.ap m.x.np m.x.cp)).setIfInBounds (k*9+5) (.bool m.x.sk)).setIfInBounds (k*9+6) (.slice m.x.ak m.x.lk m.x.ck)).setIfInBounds (k*9+7) (.int .i64 m.x.vr)).setIfInBounds (k*9+8) (.slice m.x.ka m.x.kn m.x.kc)
theorem set9_size (cur:Array Value)(k:Nat)(m:Mr):(set9 cur k m).size=cur.size:=by simp[set9]
theorem set9_other (cur:Array Value)(k:Nat)(m:Mr)(j:Nat)(h:j<k*9∨k*9+9≤j):(set9 cur k m)[j]? =cur[j]?:=by
 unfold set9
 simp only[Array.getElem?_setIfInBounds]
 rw[if_neg o_m,if_neg o_m,if_neg o_m,if_neg o_m,if_neg o_m,if_neg o_m,if_neg o_m,if_neg o_m,if_neg o_m]
theorem set9_here (cur:Array Value)(k:Nat)(m:Mr)(hk:k*9+9≤cur.size): ∀c,c<9→(set9 cur k m)[k*9+c]? =m.enc[c]?:=by
 intro c hc
 unfold set9
 simp only[Array.getElem?_setIfInBounds,Array.size_setIfInBounds]
 rcases c with _|_|_|_|_|_|_|_|_|c
 all_goals first|omega|(simp[Mr.enc,mE];omega)
def wset9 (w:World)(g k:Nat)(m:Mr):World:=
 ((((((((w.setCell ⟨g,k*9,none⟩ (.int .i64 m.id)).setCell ⟨g,k*9+1,none⟩ (.int .i64 m.x.kd)).setCell ⟨g,k*9+2,none⟩ (.bool m.x.sd)).setCell ⟨g,k*9+3,none⟩ (.slice m.x.ad m.x.ld m.x.cd)).setCell ⟨g,k*9+4,none⟩ (.slice m.x.ap m.x.np m.x.cp)).setCell ⟨g,k*9+5,none⟩ (.bool m.x.sk)).setCell ⟨g,k*9+6,none⟩ (.slice m.x.ak m.x.lk m.x.ck)).setCell ⟨g,k*9+7,none⟩ (.int .i64 m.x.vr)).setCell ⟨g,k*9+8,none⟩ (.slice m.x.ka m.x.kn m.x.kc)
theorem RB9.set (h:RB9 w g cap rs cur){k:Nat}(hk:k<rs.length)(m:Mr):RB9 (wset9 w g k m) g cap (rs.set k m) (set9 cur k m):=by
 have hl:=h.l
 have hs:=h.s
 refine⟨?_,by rw[set9_size,hs],by rw[List.length_set];exact hl,rb9_of fun i hi c hc=> ?_⟩
 ·exact heap_setCell_same _ g _ _ _ _ (heap_setCell_same _ g _ _ _ _ (heap_setCell_same _ g _ _ _ _ (heap_setCell_same _ g _ _ _ _ (heap_setCell_same _ g _ _ _ _ (heap_setCell_same _ g _ _ _ _ (heap_setCell_same _ g _ _ _ _ (heap_setCell_same _ g _ _ _ _ (heap_setCell_same _ g _ _ _ _ h.b))))))))
 rw[List.length_set]at hi
 by_cases e:i=k
 ·subst e
  rw[set9_here cur i m o_m c hc,List.getElem_set_self]
 rw[set9_other cur k m _ o_m,h.get hi hc,List.getElem_set_ne (fun e'=>e e'.symm)]
theorem wset9_grown (w:World)(g k:Nat)(m:Mr):w.grownBy (wset9 w g k m) (some g):=
 gb_trans (gb_trans (gb_trans (gb_trans (gb_trans (gb_trans (gb_trans (gb_trans (gb_set w g _ _) (gb_set _ g _ _)) (gb_set _ g _ _)) (gb_set _ g _ _)) (gb_set _ g _ _)) (gb_set _ g _ _)) (gb_set _ g _ _)) (gb_set _ g _ _)) (gb_set _ g _ _)
end Nt
end Go.Proofs.YtbgpddlcfiiiaaaGreatDoor

namespace Go.Proofs.YtbgpddlcfiiiaaaGreatDoor
open Tm At
namespace Nt
open Od

def dd1 (q:Mr→Mr→Bool):Mr→List Mr→List Mr
 |_,[]=> []
 |p,y::t=>if q y p=true then dd1 q y t else y::dd1 q y t
def dd (q:Mr→Mr→Bool):List Mr→List Mr
 | []=> []
 |x::t=>x::dd1 q x t
theorem dd1_cons {q:Mr→Mr→Bool}{p y:Mr}{t:List Mr}:dd1 q p (y::t)=if q y p=true then dd1 q y t else y::dd1 q y t:=rfl
theorem dd1_snoc (q:Mr→Mr→Bool)(y:Mr): ∀(l:List Mr) (p:Mr),dd1 q p (l++ [y])=dd1 q p l++if q y ((p::l).getLast (by simp))=true then []else [y]
 | [],p=>by
  show(if q y p=true then []else [y])= []++if q y p=true then []else [y]
  rw[List.nil_append]
 |x::l,p=>by
  have h:=dd1_snoc q y l x
  have e:(p::x::l).getLast (by simp)=(x::l).getLast (by simp):=by simp
  rw[e]
  simp only[List.cons_append,dd1]
  split
  ·exact h
  rw[h,List.cons_append]
theorem dd_take {q:Mr→Mr→Bool}{rs:List Mr}{e:Nat}(he:e+1<rs.length):dd q (rs.take (e+2))=dd q (rs.take (e+1))++if q rs[e+1] (rs[e]'o_m)=true then []else [rs[e+1]]:=by
 cases rs with
 |nil=>simp at he
 |cons x t=>
  have h1:(x::t).take (e+2)=x::(t.take e++ [t[e]'(by simpa using he)]):=by
   rw[List.take_succ_cons,List.take_succ_eq_append_getElem (by simpa using he)]
  have h2:(x::t).take (e+1)=x::t.take e:=List.take_succ_cons
  rw[h1,h2]
  simp only[dd]
  rw[dd1_snoc,List.cons_append]
  congr 2
  have h3:(x::t.take e).getLast (by simp)=(x::t)[e]'o_m:=by
   rw[List.getLast_eq_getElem]
   have hl:(x::t.take e).length-1=e:=by
    simp only[List.length_cons,List.length_take]at he ⊢
    omega
   simp only[hl]
   cases e with
   |zero=>rfl
   |succ e=>
    simp only[List.getElem_cons_succ,List.getElem_take]
  rw[h3]
  rfl
end Nt
namespace Nt
open Od

theorem dd1_sub (q:Mr→Mr→Bool): ∀(l:List Mr) (p:Mr),(dd1 q p l).Sublist l
 | [],_=>List.Sublist.slnil
 |y::t,p=>by
  rw[dd1_cons]
  split
  ·exact(dd1_sub q t y).cons y
  exact(dd1_sub q t y).cons_cons y
theorem dd_sub (q:Mr→Mr→Bool)(l:List Mr):(dd q l).Sublist l:=by
 cases l with
 |nil=>exact List.Sublist.slnil
 |cons x t=>exact(dd1_sub q t x).cons_cons x

theorem dd1_pw {P:Mr→Mr→Int}(hP:Lin P){q:Mr→Mr→Bool}(hq: ∀x y,q x y=true↔P y x=0): ∀(l:List Mr) (p:Mr),(p::l).Pairwise (fun x y=>P x y≤0)→(p::dd1 q p l).Pairwise (fun x y=>P x y<0)
 | [],p=>fun _=>List.pairwise_singleton _ _
 |y::t,p=>fun h=>by
  have h1:=List.pairwise_cons.1 h
  have h2:=List.pairwise_cons.1 h1.2
  have ih:=dd1_pw hP hq t y h1.2
  have ih1:=List.pairwise_cons.1 ih
  have hpy:=h1.1 y List.mem_cons_self
  have hb: ∀x∈dd1 q y t,P p x<0:=by
   intro x hx
   have e1:=ih1.1 x hx
   have e2:=hP.trans p y x hpy o_m
   have:P p x≠0:=fun e=>by
    have:=(e2.2 e).2
    omega
   omega
  rw[dd1_cons]
  split
  ·exact List.pairwise_cons.2 ⟨hb,ih1.2⟩
  rename_i hn
  refine List.pairwise_cons.2 ⟨fun x hx=> ?_,ih⟩
  rcases List.mem_cons.1 hx with rfl|hx
  ·have:P p x≠0:=fun e=>hn ((hq x p).2 e)
   omega
  exact hb x hx
theorem dd_pw {P:Mr→Mr→Int}(hP:Lin P){q:Mr→Mr→Bool}(hq: ∀x y,q x y=true↔P y x=0){l:List Mr}(h:l.Pairwise (fun x y=>P x y≤0)):(dd q l).Pairwise (fun x y=>P x y<0):=by
 cases l with
 |nil=>exact List.Pairwise.nil
 |cons x t=>exact dd1_pw hP hq t x h
theorem dd1_cov {P:Mr→Mr→Int}(hP:Lin P){q:Mr→Mr→Bool}(hq: ∀x y,q x y=true↔P y x=0){S:Mr→Mr→Prop}(hr: ∀x,S x x)(ht: ∀x y z,S x y→S y z→S x z): ∀(l:List Mr) (p:Mr),(p::l).Pairwise S→∀y∈p::l,∃x∈p::dd1 q p l,P x y=0∧S x y
 | [],p=>fun _ y hy=>by
  have e:y=p:=by simpa using hy
  subst e
  have:=hP.anti y y
  exact⟨y,List.mem_cons_self,by omega,hr y⟩
 |y::t,p=>fun h z hz=>by
  have h1:=List.pairwise_cons.1 h
  rcases List.mem_cons.1 hz with rfl|hz
  ·have:=hP.anti z z
   exact⟨z,List.mem_cons_self,by omega,hr z⟩
  obtain⟨x,hx,e1,e2⟩:=dd1_cov hP hq hr ht t y h1.2 z hz
  rw[dd1_cons]
  by_cases hn:q y p=true
  ·rw[if_pos hn]
   rcases List.mem_cons.1 hx with rfl|hx
   ·have e3:=(hq x p).1 hn
    have a1:=hP.anti p x
    have a2:=hP.anti x z
    have a3:=hP.anti p z
    have t1:=hP.trans p x z o_m o_m
    have t2:=hP.trans z x p o_m o_m
    exact⟨p,List.mem_cons_self,by omega,ht _ _ _ (h1.1 x List.mem_cons_self) e2⟩
   exact⟨x,List.mem_cons_of_mem _ hx,e1,e2⟩
  rw[if_neg hn]
  exact⟨x,List.mem_cons_of_mem _ hx,e1,e2⟩
theorem dd_cov {P:Mr→Mr→Int}(hP:Lin P){q:Mr→Mr→Bool}(hq: ∀x y,q x y=true↔P y x=0){S:Mr→Mr→Prop}(hr: ∀x,S x x)(ht: ∀x y z,S x y→S y z→S x z){l:List Mr}(h:l.Pairwise S): ∀y∈l,∃x∈dd q l,P x y=0∧S x y:=by
 cases l with
 |nil=>exact fun y hy=>absurd hy List.not_mem_nil
 |cons x t=>exact dd1_cov hP hq hr ht t x h

def ordP (n m:Nd):Int:=lex (fun x y:Nd=>ordL (lnP x.ps) (lnP y.ps)) (fun x y:Nd=>cmpI (bI (neg1 x.ps)) (bI (neg1 y.ps))) n m
theorem totP :Lin ordP:=(tot_ord fun x:Nd=>lnP x.ps).lex (tot_cmp fun x:Nd=>bI (neg1 x.ps))
theorem ordP_zero {n m:Nd}:ordP n m=0↔n.ps=m.ps:=by
 unfold ordP
 constructor
 ·intro h
  by_cases h1:ordL (lnP n.ps) (lnP m.ps)=0
  ·rw[lex_neg (f:=fun x y:Nd=>ordL (lnP x.ps) (lnP y.ps)) _ h1,cmpI_zero]at h
   exact ln_same (ordL_zero.1 h1) (by cases hn:neg1 n.ps <;> cases hm:neg1 m.ps <;> simp[hn,hm,bI]at h ⊢)
  rw[lex_pos (f:=fun x y:Nd=>ordL (lnP x.ps) (lnP y.ps)) _ h1]at h
  exact absurd h h1
 intro e
 rw[lex_neg (f:=fun x y:Nd=>ordL (lnP x.ps) (lnP y.ps)) _ (by rw[e];exact ordL_zero.2 rfl),e]
 exact cmpI_zero.2 rfl
theorem ordS_P (sg:Int)(n m:Nd):ordS sg n.ps n.k m.ps m.k=lex ordP (fun x y:Nd=>cmpI (sg*x.k) (sg*y.k)) n m:=by
 rw[ordS_lex]
 by_cases h1:ordL (lnP n.ps) (lnP m.ps)=0
 ·rw[lex_neg (f:=fun x y:Nd=>ordL (lnP x.ps) (lnP y.ps)) _ h1]
  have e:ordP n m=cmpI (bI (neg1 n.ps)) (bI (neg1 m.ps)):=lex_neg (f:=fun x y:Nd=>ordL (lnP x.ps) (lnP y.ps)) _ h1
  by_cases h2:cmpI (bI (neg1 n.ps)) (bI (neg1 m.ps))=0
  ·rw[lex_neg (f:=fun x y:Nd=>cmpI (bI (neg1 x.ps)) (bI (neg1 y.ps))) _ h2,lex_neg _ (e.trans h2)]
  rw[lex_pos (f:=fun x y:Nd=>cmpI (bI (neg1 x.ps)) (bI (neg1 y.ps))) _ h2,lex_pos _ (by rw[e];exact h2),e]
 have e:ordP n m=ordL (lnP n.ps) (lnP m.ps):=lex_pos (f:=fun x y:Nd=>ordL (lnP x.ps) (lnP y.ps)) _ h1
 rw[lex_pos (f:=fun x y:Nd=>ordL (lnP x.ps) (lnP y.ps)) _ h1,lex_pos _ (by rw[e];exact h1),e]
theorem ordS_le {sg:Int}{n m:Nd}(h:ordS sg n.ps n.k m.ps m.k≤0):ordP n m≤0∧(n.ps=m.ps→sg*n.k≤sg*m.k):=by
 rw[ordS_P]at h
 by_cases e:ordP n m=0
 ·rw[lex_neg _ e]at h
  refine⟨by omega,fun _=> ?_⟩
  unfold cmpI at h
  omega
 rw[lex_pos _ e]at h
 exact⟨h,fun e'=>absurd (ordP_zero.2 e') e⟩
def qS (x y:Mr):Bool:=decide (x.n.ps=y.n.ps)
structure Left9 (sg:Int) (rs rs':List Mr):Prop where
 sub:rs'.Sublist rs
 pw:rs'.Pairwise fun x y=>ordP x.n y.n<0
 least: ∀x∈rs',∀y∈rs,y.n.ps=x.n.ps→¬sg*y.n.k<sg*x.n.k
 cov: ∀y∈rs,∃x∈rs',x.n.ps=y.n.ps
theorem left9_dd {sg:Int}{rs:List Mr}(h:rs.Pairwise fun x y=> ¬ordS sg y.n.ps y.n.k x.n.ps x.n.k<0):Left9 sg rs (dd qS rs):=by
 have hle:rs.Pairwise fun x y:Mr=>ordS sg x.n.ps x.n.k y.n.ps y.n.k≤0:=h.imp fun{x y} e=>by
  have:=(totS sg).anti x.n y.n
  omega
 have hP:Lin fun x y:Mr=>ordP x.n y.n:=totP.on Mr.n
 have hq: ∀x y,qS x y=true↔ordP y.n x.n=0:=fun x y=>by
  unfold qS
  rw[decide_eq_true_eq,ordP_zero]
  exact eq_comm
 have hpw:=dd_pw hP hq (hle.imp fun{x y} e=>(ordS_le e).1)
 have hcov:=dd_cov hP hq (S:=fun x y:Mr=>ordS sg x.n.ps x.n.k y.n.ps y.n.k≤0)
  (fun x=>by have:=(totS sg).anti x.n x.n;omega)
  (fun x y z e1 e2=>((totS sg).trans x.n y.n z.n e1 e2).1) hle
 refine⟨dd_sub _ _,hpw,fun x hx y hy e=> ?_,fun y hy=> ?_⟩
 ·obtain⟨x',hx',e1,e2⟩:=hcov y hy
  have e3:x'.n.ps=y.n.ps:=ordP_zero.1 e1
  have e4:x'=x:=by
   obtain⟨i,hi,rfl⟩:=List.getElem_of_mem hx
   obtain⟨j,hj,rfl⟩:=List.getElem_of_mem hx'
   have hz:=ordP_zero.2 (e3.trans e)
   have ha:=totP.anti (dd qS rs)[j].n (dd qS rs)[i].n
   rcases Nat.lt_trichotomy i j with hij|rfl|hij
   ·have:=List.pairwise_iff_getElem.1 hpw i j hi hj hij
    omega
   ·rfl
   have:=List.pairwise_iff_getElem.1 hpw j i hj hi hij
   omega
  subst e4
  have:=(ordS_le e2).2 e3
  omega
 obtain⟨x,hx,e1,_⟩:=hcov y hy
 exact⟨x,hx,ordP_zero.1 e1⟩
end Nt
namespace Nt
open Od

variable {rs ls d:List Mr}{kk:Int}{L:List Nd}{M:Int→Prop}
theorem hp_of {P:Mr→Mr→Int}(hP:Lin P){mat:Mr→Mr→Bool}{rs:List Mr}(hs:rs.Pairwise fun x y=>P x y≤0)(hy: ∀x∈rs,∀y∈rs,mat x y=true→mat y x=true){a b:Nat}(ha:a<rs.length)(hb:b<rs.length)(hab:a≠b)(h0:P rs[a] rs[b]=0)(hm:mat rs[a] rs[b]=true):HP P mat rs 0:=by
 have key: ∀a b (ha:a<rs.length) (hb:b<rs.length),a<b→P rs[a] rs[b]=0→mat rs[a] rs[b]=true→HP P mat rs 0:=by
  intro a b ha hb hlt h0 hm
  refine⟨a,b,hlt,hb,Nat.zero_le _,fun k h1 h2=> ?_,by rw[gm_get ha,gm_get hb];exact hm⟩
  have hk:k<rs.length:=by omega
  rw[gm_get ha,gm_get hk]
  have e1:=List.pairwise_iff_getElem.1 hs a k ha hk h1
  have e2:P rs[k] rs[b]≤0:=by
   rcases Nat.lt_or_ge k b with h3|h3
   ·exact List.pairwise_iff_getElem.1 hs k b hk hb h3
   obtain rfl:k=b:=by omega
   have:=hP.anti rs[k] rs[k]
   omega
  exact((hP.trans _ _ _ e1 e2).2 h0).1
 rcases Nat.lt_or_gt_of_ne hab with h|h
 ·exact key a b ha hb h h0 hm
 refine key b a hb ha h ?_ (hy _ (List.getElem_mem _) _ (List.getElem_mem _) hm)
 have:=hP.anti rs[a] rs[b]
 omega
theorem hp_two {P:Mr→Mr→Int}{mat:Mr→Mr→Bool}(h:HP P mat rs 0): ∃a b,∃ha:a<rs.length,∃hb:b<rs.length,a<b∧P rs[a] rs[b]=0∧mat rs[a] rs[b]=true:=by
 obtain⟨a,b,h1,h2,_,h3,h4⟩:=h
 have ha:a<rs.length:=by omega
 have h5:=h3 b h1 (Nat.le_refl _)
 rw[gm_get ha,gm_get h2]at h4 h5
 exact⟨a,b,ha,h2,h1,h5,h4⟩

structure Mb9 (L:List Nd) (M:Int→Prop) (rs:List Mr):Prop where
 n: ∀m∈rs,m.n=ndI L m.id
 m: ∀x,M x↔ ∃m∈rs,m.id=x
 ok: ∀x,M x→okI L x
theorem ndI_inj (hg:Gv kk L){x y:Int}(hx:okI L x)(hy:okI L y)(e:ndI L x=ndI L y):x=y:=by
 have h1:=ndI_some hx
 have h2:=ndI_some hy
 rw[e]at h1
 have:=hg.uq _ _ _ h1 h2
 have a1:=hx.1
 have a2:=hy.1
 omega
theorem less_same (hg:Gv kk L){x y:Int}(hx:okI L x)(hy:okI L y)(h1:(ndI L x).kind=2)(h2:(ndI L y).kind=2)(e1:(ndI L x).ps=(ndI L y).ps)(e2:(ndI L x).k=(ndI L y).k):x=y:=by
 refine ndI_inj hg hx hy ?_
 have key: ∀z,okI L z→(ndI L z).kind=2→ndI L z=⟨2,0,(ndI L z).ps,(ndI L z).k,0,[]⟩:=by
  intro z hz h
  obtain⟨h3,_,_,h4⟩:=hg.atm hz o_m
  have hd:(atmN (ndI L z)).d=0:=by
   have hk:(atmN (ndI L z)).kind=2:=h
   rcases h3 with⟨h5,_⟩|⟨_,h5,_⟩|⟨h5,_⟩
   ·omega
   ·exact h5
   omega
  have hk:(atmN (ndI L z)).kind=2:=h
  rw[h4]
  unfold ndA
  rw[hk,hd]
 rw[key x hx h1,key y hy h2,e1,e2]
theorem less_ps (hg:Gv kk L){x:Int}(hx:okI L x)(h1:(ndI L x).kind=2∨(ndI L x).kind=3∨(ndI L x).kind=4):(ndI L x).ps≠ []∧Std (ndI L x).ps:=by
 obtain⟨h3,_⟩:=hg.atm hx o_m
 have hk:(atmN (ndI L x)).kind=(ndI L x).kind:=rfl
 refine⟨?_,h3.std⟩
 rcases h3 with⟨h5,_⟩|⟨_,_,_,h5,_⟩|⟨_,h5,_⟩
 ·omega
 ·exact h5
 exact h5.some
theorem neg_ne {ps:List (Int × Int)}(h0:ps≠ [])(hS:Std ps):ps≠negP ps:=by
 cases ps with
 |nil=>exact absurd rfl h0
 |cons p t=>
  intro e
  have e2:negP (p::t)=(p.1,-p.2)::negP t:=rfl
  rw[e2]at e
  injection e with e3 _
  have h1:=hS.2 p List.mem_cons_self
  have h2:p.2= -p.2:=congrArg Prod.snd e3
  omega
theorem neg_ln {ps:List (Int × Int)}(h0:ps≠ [])(hS:Std ps):lnP (negP ps)=lnP ps:=by
 cases ps with
 |nil=>exact absurd rfl h0
 |cons p t=>
  have h1:=hS.2 p List.mem_cons_self
  have e:neg1 (negP (p::t))= !neg1 (p::t):=by
   show decide (-p.2<0)= !decide (p.2<0)
   by_cases h:p.2<0
   ·rw[decide_eq_true h,decide_eq_false o_m]
    rfl
   rw[decide_eq_false h,decide_eq_true o_m]
   rfl
  unfold lnP
  rw[e,←tP_not (!neg1 (p::t)) (p::t),tP_tP,Bool.not_not]
theorem stay_iff {sg:Int}(hg:Gv kk L)(hsg:sg=1∨sg= -1)(hb:Mb9 L M rs)(hp:ls.Perm (rs.filter p1))(hl:Left9 sg ls d)(x:Int):Stay L sg M x↔ ∃m∈d,m.id=x:=by
 have hin: ∀m,m∈ls↔m∈rs∧m.n.kind=2:=fun m=>by
  rw[hp.mem_iff,List.mem_filter]
  unfold p1
  rw[beq_iff_eq]
 constructor
 ·rintro⟨h1,h2,h3⟩
  obtain⟨m,hm,rfl⟩:=(hb.m x).1 h1
  have hmn:=hb.n m hm
  obtain⟨m',hm',e⟩:=hl.cov m ((hin m).2 ⟨hm,by rw[hmn];exact h2⟩)
  have hm2:=(hin m').1 (hl.sub.mem hm')
  have hmn':=hb.n m' hm2.1
  have hM':=(hb.m m'.id).2 ⟨m',hm2.1,rfl⟩
  have g1:=hl.least m' hm' m ((hin m).2 ⟨hm,by rw[hmn];exact h2⟩) e.symm
  have g2:=h3 m'.id hM' (by rw[←hmn'];exact hm2.2) (by rw[←hmn',←hmn];exact e)
  refine⟨m',hm',(less_same hg (hb.ok _ h1) (hb.ok _ hM') h2 (by rw[←hmn'];exact hm2.2) (by rw[←hmn',←hmn];exact e.symm) ?_).symm⟩
  rw[hmn,hmn']at g1
  rcases hsg with rfl|rfl <;> omega
 rintro⟨m,hm,rfl⟩
 have hm2:=(hin m).1 (hl.sub.mem hm)
 have hmn:=hb.n m hm2.1
 refine⟨(hb.m _).2 ⟨m,hm2.1,rfl⟩,by rw[←hmn];exact hm2.2,fun y hy h2 e=> ?_⟩
 obtain⟨m',hm',rfl⟩:=(hb.m y).1 hy
 have hmn':=hb.n m' hm'
 have:=hl.least m hm m' ((hin m').2 ⟨hm',by rw[hmn'];exact h2⟩) (by rw[hmn,hmn'];exact e)
 rw[hmn,hmn']at this
 exact this
theorem clash_iff {sg:Int}(hg:Gv kk L)(hsg:sg=1∨sg= -1)(hb:Mb9 L M rs)(hp:ls.Perm (rs.filter p1))(hl:Left9 sg ls d):
  HP (fun x y=>ordL (lnP x.n.ps) (lnP y.n.ps)) (fun x y=>decide (cmpI (sg*(x.n.k+y.n.k)) (sg*1)≤0)) d 0↔Clash L sg M:=by
 have hst:=stay_iff hg hsg hb hp hl
 have hmem: ∀m∈d,Stay L sg M m.id∧m.n=ndI L m.id:=fun m hm=>by
  refine⟨(hst _).2 ⟨m,hm,rfl⟩,hb.n m ?_⟩
  have:=hp.mem_iff.1 (hl.sub.mem hm)
  exact(List.mem_filter.1 this).1
 have hcmp: ∀a b:Int,cmpI a b≤0↔a≤b:=fun a b=>by unfold cmpI;split <;> (try split) <;> omega
 have hord: ∀x y:Nd,ordP x y<0→ordL (lnP x.ps) (lnP y.ps)≤0:=fun x y h=>by
  by_cases e:ordL (lnP x.ps) (lnP y.ps)=0
  ·omega
  have:ordP x y=ordL (lnP x.ps) (lnP y.ps):=lex_pos (f:=fun x y:Nd=>ordL (lnP x.ps) (lnP y.ps)) _ e
  omega
 have hP:Lin fun x y:Mr=>ordL (lnP x.n.ps) (lnP y.n.ps):=tot_ord fun x:Mr=>lnP x.n.ps
 constructor
 ·intro h
  obtain⟨a,b,ha,hb',hab,h1,h2⟩:=hp_two h
  have e1:=hmem d[a] (List.getElem_mem _)
  have e2:=hmem d[b] (List.getElem_mem _)
  have h3:=List.pairwise_iff_getElem.1 hl.pw a b ha hb' hab
  refine⟨d[a].id,d[b].id,e1.1,e2.1,?_,?_⟩
  ·rw[←e1.2,←e2.2]
   refine ln_neg (ordL_zero.1 h1) fun e=> ?_
   have:=ordP_zero.2 (ln_same (ordL_zero.1 h1) e)
   omega
  have h4:=(hcmp _ _).1 (of_decide_eq_true h2)
  rw[←e1.2,←e2.2]
  omega
 rintro⟨x,y,h1,h2,e,h3⟩
 obtain⟨m,hm,rfl⟩:=(hst x).1 h1
 obtain⟨m',hm',rfl⟩:=(hst y).1 h2
 obtain⟨a,ha,rfl⟩:=List.getElem_of_mem hm
 obtain⟨b,hb',rfl⟩:=List.getElem_of_mem hm'
 have e1:=(hmem d[a] (List.getElem_mem _)).2
 have e2:=(hmem d[b] (List.getElem_mem _)).2
 have hps:=less_ps hg (hb.ok _ h1.1) (.inl h1.2.1)
 refine hp_of hP (hl.pw.imp fun{x y} h=>hord x.n y.n h) (fun x _ y _ h=> ?_) ha hb' (fun hab=> ?_) ?_ ?_
 ·rw[Int.add_comm]
  exact h
 ·subst hab
  exact neg_ne hps.1 hps.2 e
 ·show ordL (lnP d[a].n.ps) (lnP d[b].n.ps)=0
  rw[e1,e2,e]
  exact ordL_zero.2 (neg_ln hps.1 hps.2).symm
 refine decide_eq_true ((hcmp _ _).2 ?_)
 rw[e1,e2]
 omega
theorem div_pos (hg:Gv kk L){x:Int}(hx:okI L x)(h1:(ndI L x).kind=3∨(ndI L x).kind=4):neg1 (ndI L x).ps=false:=by
 obtain⟨h3,_⟩:=hg.atm hx o_m
 have hk:(atmN (ndI L x)).kind=(ndI L x).kind:=rfl
 have h:Dsh (ndI L x).d (ndI L x).ps (ndI L x).k:=by
  rcases h3 with⟨h5,_⟩|⟨h5,_⟩|⟨_,h5,_⟩
  ·omega
  ·omega
  exact h5
 cases hps:(ndI L x).ps with
 |nil=>rfl
 |cons p t=>
  have:=h.rng p (by rw[hps];exact List.mem_cons_self)
  show decide (p.2<0)=false
  rw[decide_eq_false_iff_not]
  omega
theorem ordD_zero {n m:Nd}:ordD n m=0↔n.d=m.d∧lnP n.ps=lnP m.ps∧n.k=m.k:=by
 unfold ordD
 constructor
 ·intro h
  by_cases h1:cmpI n.d m.d=0
  ·rw[if_neg (fun e=>e h1)]at h
   by_cases h2:ordL (lnP n.ps) (lnP m.ps)=0
   ·rw[if_neg (fun e=>e h2)]at h
    exact⟨cmpI_zero.1 h1,ordL_zero.1 h2,cmpI_zero.1 h⟩
   rw[if_pos h2]at h
   exact absurd h h2
  rw[if_pos h1]at h
  exact absurd h h1
 rintro⟨h1,h2,h3⟩
 rw[h1,h2,h3,if_neg (fun e=>e (cmpI_zero.2 rfl)),if_neg (fun e=>e (ordL_zero.2 rfl))]
 exact cmpI_zero.2 rfl
theorem oppos_iff (hg:Gv kk L)(hb:Mb9 L M rs)(hp:ls.Perm (rs.filter p2))(hs:ls.Pairwise fun x y=> ¬ordD y.n x.n<0):
  HP (fun x y=>ordD x.n y.n) (fun x y=> !(x.n.kind==y.n.kind)) ls 0↔Oppos L M:=by
 have hin: ∀m,m∈ls↔m∈rs∧(m.n.kind=3∨m.n.kind=4):=fun m=>by
  rw[hp.mem_iff,List.mem_filter]
  unfold p2
  rw[Bool.or_eq_true,beq_iff_eq,beq_iff_eq]
 have hmem: ∀m∈ls,M m.id∧m.n=ndI L m.id∧(m.n.kind=3∨m.n.kind=4):=fun m hm=>by
  have h:=(hin m).1 hm
  exact⟨(hb.m _).2 ⟨m,h.1,rfl⟩,hb.n m h.1,h.2⟩
 have hP:Lin fun x y:Mr=>ordD x.n y.n:=totD.on Mr.n
 have hle:ls.Pairwise fun x y:Mr=>ordD x.n y.n≤0:=hs.imp fun{x y} e=>by
  have:=totD.anti x.n y.n
  omega
 have hps: ∀m∈ls,neg1 m.n.ps=false:=fun m hm=>by
  have h:=hmem m hm
  rw[h.2.1]
  exact div_pos hg (hb.ok _ h.1) (by rw[←h.2.1];exact h.2.2)
 have hpse: ∀m∈ls,∀m'∈ls,lnP m.n.ps=lnP m'.n.ps→m.n.ps=m'.n.ps:=fun m hm m' hm' e=>ln_same e (by rw[hps m hm,hps m' hm'])
 constructor
 ·intro h
  obtain⟨a,b,ha,hb',hab,h1,h2⟩:=hp_two h
  have e1:=hmem ls[a] (List.getElem_mem _)
  have e2:=hmem ls[b] (List.getElem_mem _)
  have h3:=ordD_zero.1 h1
  have h4:ls[a].n.kind≠ls[b].n.kind:=by simpa using h2
  have h5:=hpse ls[a] (List.getElem_mem _) ls[b] (List.getElem_mem _) h3.2.1
  rcases e1.2.2 with k1|k1
  ·refine⟨ls[a].id,ls[b].id,e1.1,e2.1,?_⟩
   rw[←e1.2.1,←e2.2.1]
   exact⟨k1,by omega,h3.1,h5,h3.2.2⟩
  refine⟨ls[b].id,ls[a].id,e2.1,e1.1,?_⟩
  rw[←e1.2.1,←e2.2.1]
  exact⟨by omega,k1,h3.1.symm,h5.symm,h3.2.2.symm⟩
 rintro⟨x,y,h1,h2,k1,k2,e1,e2,e3⟩
 obtain⟨m,hm,rfl⟩:=(hb.m x).1 h1
 obtain⟨m',hm',rfl⟩:=(hb.m y).1 h2
 have hn:=hb.n m hm
 have hn':=hb.n m' hm'
 rw[←hn]at k1 e1 e2 e3
 rw[←hn']at k2 e1 e2 e3
 obtain⟨a,ha,ea⟩:=List.getElem_of_mem ((hin m).2 ⟨hm,.inl k1⟩)
 obtain⟨b,hb',eb⟩:=List.getElem_of_mem ((hin m').2 ⟨hm',.inr k2⟩)
 refine hp_of hP hle (fun x _ y _ h=> ?_) ha hb' (fun hab=> ?_) ?_ ?_
 ·rw[Bool.not_eq_true',beq_eq_false_iff_ne]at h ⊢
  exact fun e=>h e.symm
 ·subst hab
  rw[ea]at eb
  rw[eb]at k1
  omega
 ·show ordD ls[a].n ls[b].n=0
  rw[ea,eb]
  exact ordD_zero.2 ⟨e1,by rw[e2],e3⟩
 show(!(ls[a].n.kind==ls[b].n.kind))=true
 rw[ea,eb,k1,k2]
 rfl
theorem keep_iff {sg:Int}{es:List Mr}(hg:Gv kk L)(hsg:sg=1∨sg= -1)(hb:Mb9 L M rs)(hp:ls.Perm (rs.filter p1))(hl:Left9 sg ls d)(hq:es.Perm (rs.filter p2))(x:Int):Keep L sg M x↔ ∃m∈d++es++rs.filter p3,m.id=x:=by
 have hst:=stay_iff hg hsg hb hp hl
 constructor
 ·rintro⟨h1,h2⟩
  obtain⟨m,hm,rfl⟩:=(hb.m x).1 h1
  have hn:=hb.n m hm
  by_cases k2:m.n.kind=2
  ·obtain⟨m',hm',e⟩:=(hst _).1 (h2 (by rw[←hn];exact k2))
   exact⟨m',List.mem_append_left _ (List.mem_append_left _ hm'),e⟩
  by_cases k3:m.n.kind=3∨m.n.kind=4
  ·refine⟨m,List.mem_append_left _ (List.mem_append_right _ ?_),rfl⟩
   rw[hq.mem_iff,List.mem_filter]
   unfold p2
   rw[Bool.or_eq_true,beq_iff_eq,beq_iff_eq]
   exact⟨hm,k3⟩
  refine⟨m,List.mem_append_right _ ?_,rfl⟩
  rw[List.mem_filter]
  refine⟨hm,?_⟩
  unfold p3 p1 p2
  simp only[Bool.not_eq_true',Bool.or_eq_false_iff,beq_eq_false_iff_ne]
  omega
 rintro⟨m,hm,rfl⟩
 rcases List.mem_append.1 hm with hm|hm
 ·rcases List.mem_append.1 hm with hm|hm
  ·have h:=(hst m.id).2 ⟨m,hm,rfl⟩
   exact⟨h.1,fun _=>h⟩
  rw[hq.mem_iff,List.mem_filter]at hm
  have hn:=hb.n m hm.1
  have k:=hm.2
  unfold p2 at k
  rw[Bool.or_eq_true,beq_iff_eq,beq_iff_eq]at k
  exact⟨(hb.m _).2 ⟨m,hm.1,rfl⟩,fun e=>by rw[←hn]at e;omega⟩
 rw[List.mem_filter]at hm
 have hn:=hb.n m hm.1
 have k:=hm.2
 unfold p3 p1 p2 at k
 simp only[Bool.not_eq_true',Bool.or_eq_false_iff,beq_eq_false_iff_ne]at k
 exact⟨(hb.m _).2 ⟨m,hm.1,rfl⟩,fun e=>by rw[←hn]at e;omega⟩
def ndd (dual:Int)(all:List Int)(m:Mr):Bool:=!(m.n.kind==dual)|| !(m.n.kids.any fun z=>decide (z∈all))
theorem need_iff {sg dual:Int}{es:List Mr}(hg:Gv kk L)(hsg:sg=1∨sg= -1)(hb:Mb9 L M rs)(hp:ls.Perm (rs.filter p1))(hl:Left9 sg ls d)(hq:es.Perm (rs.filter p2)){all:List Int}(ha: ∀x,x∈all↔x∈(d++es++rs.filter p3).map Mr.id)(x:Int):
  x∈((d++es++rs.filter p3).filter (ndd dual all)).map Mr.id↔Need L sg dual M x:=by
 have hk:=keep_iff hg hsg hb hp hl hq
 have hn: ∀m∈d++es++rs.filter p3,m.n=ndI L m.id:=fun m hm=>by
  refine hb.n m ?_
  rcases List.mem_append.1 hm with hm|hm
  ·rcases List.mem_append.1 hm with hm|hm
   ·exact(List.mem_filter.1 (hp.mem_iff.1 (hl.sub.mem hm))).1
   exact(List.mem_filter.1 (hq.mem_iff.1 hm)).1
  exact(List.mem_filter.1 hm).1
 have hal: ∀x,x∈all↔Keep L sg M x:=fun x=>by rw[ha x,hk x,List.mem_map]
 have hnd: ∀m∈d++es++rs.filter p3,(ndd dual all m=true↔ ¬((ndI L m.id).kind=dual∧∃z∈(ndI L m.id).kids,Keep L sg M z)):=fun m hm=>by
  rw[←hn m hm]
  unfold ndd
  simp only[Bool.or_eq_true,Bool.not_eq_true',beq_eq_false_iff_ne,List.any_eq_false,decide_eq_true_eq]
  constructor
  ·rintro(h|h) ⟨h1,z,hz,h2⟩
   ·exact h h1
   exact h z hz ((hal z).2 h2)
  intro h
  by_cases h1:m.n.kind=dual
  ·exact .inr fun z hz h2=>h ⟨h1,z,hz,(hal z).1 h2⟩
  exact .inl h1
 rw[List.mem_map]
 constructor
 ·rintro⟨m,hm,rfl⟩
  rw[List.mem_filter]at hm
  exact⟨(hk _).2 ⟨m,hm.1,rfl⟩,(hnd m hm.1).1 hm.2⟩
 rintro⟨h1,h2⟩
 obtain⟨m,hm,rfl⟩:=(hk x).1 h1
 exact⟨m,List.mem_filter.2 ⟨hm,(hnd m hm).2 h2⟩,rfl⟩
end Nt
end Go.Proofs.YtbgpddlcfiiiaaaGreatDoor

namespace Go.Proofs.YtbgpddlcfiiiaaaGreatDoor
open Go.RowKit Go.Sort Go.Shelf
open Tm At
namespace Nt

variable {w:World}{kd dual idle rul:Int}{K:Nat}
def lwV (kd dual idle rul:Int)(K:Nat):Array Value:=#[.int .i64 kd,.int .i64 dual,.int .i64 idle,.int .i64 rul,.func (.func K) #[] #[]]
theorem rules_n {i:Int}{x:NR}:
  Calls Tryz.prog 183 #[.agg (lwV kd dual idle rul K),.agg (mE i x)] w fun e w'=>e= .returned (.bool (i==rul))∧Below w.heap.size w w':=by
 obtain⟨kd0,sd0,ad0,ld0,cd0,ap0,np0,cp0,sk0,ak0,lk0,ck0,vr0,ka0,kn0,kc0⟩:=x
 simp only[lwV,mE]
 have b0:=hide (below_alloc' (below_alloc w (.cells #[.int .i64 kd,.int .i64 dual,.int .i64 idle,.int .i64 rul,.func (.func K) #[] #[]] 200)) (.cells #[.int .i64 i,.int .i64 kd0,.bool sd0,.slice ad0 ld0 cd0,.slice ap0 np0 cp0,.bool sk0,.slice ak0 lk0 ck0,.int .i64 vr0,.slice ka0 kn0 kc0] 233))
 go_enter Tryz.func183,Tryz.ntmps183
 go_wp2
 go_ret
 exact⟨rfl,b0.out⟩
theorem indexM_n {base n:Nat}{v:Value}{rs:List Mr}(h:w.ownsRow base 233 9 v n (flat9 rs))(hn:rs.length=n)(hm:n≤1048000):
  Calls Tryz.prog 208 #[v,.func (.func 183) #[.agg (lwV kd dual idle rul K)] #[]] w fun x w'=> ∃i:Int,x= .returned (.int .i64 i)∧(decide (0≤i)=rs.any fun m=>m.id==rul)∧-1≤i∧i<n∧Below w.heap.size w w':=by
 obtain⟨av,cv,rfl⟩:=row9_form h
 go_enter Tryz.func208,Tryz.ntmps208
 go_wp2_with fail
 go_loopw [8] (fun q wr=> ∃t:Nat,t≤n∧q= .int .i64 t∧Hid (((rs.take t).any fun m=>m.id==rul)=false)∧Hid (Below w.heap.size w wr)) (fun q _=>n-(intOf q).toNat)
 case atStart=>exact⟨0,Nat.zero_le _,rfl,(show _=_ by simp),hide (Below.refl _ _)⟩
 case round=>
  obtain⟨t,ht,rfl,hno,kr⟩:=hrel
  by_cases htm:t<n
  ·obtain⟨g,cap,hsl,hgl,hc⟩:=row9_cell (own_below h kr.out) hn htm
   injection hsl with ea eb ec
   subst ea ec
   clear eb
   have hstep:Hid (((rs.take (t+1)).any fun m=>m.id==rul)=((rs[t]'o_m).id==rul)):=(show _=_ by rw[List.take_succ_eq_append_getElem (l:=rs) (i:=t) o_m,List.any_append,hno.out];simp)
   have hex:Hid (((rs[t]'o_m).id==rul)=true→(rs.any fun m=>m.id==rul)=true):=(fun hh=>List.any_eq_true.2 ⟨rs[t]'o_m,List.getElem_mem _,hh⟩)
   have e0:=hc 0 (by decide)
   have e1:=hc 1 (by decide)
   have e2:=hc 2 (by decide)
   have e3:=hc 3 (by decide)
   have e4:=hc 4 (by decide)
   have e5:=hc 5 (by decide)
   have e6:=hc 6 (by decide)
   have e7:=hc 7 (by decide)
   have e8:=hc 8 (by decide)
   clear hc h
   generalize rs[t]'o_m=m at*
   have hcl:=hide (rules_n (w:=wr) (kd:=kd) (dual:=dual) (idle:=idle) (rul:=rul) (i:=m.id) (K:=K) (x:=m.x))
   obtain⟨i,⟨kd0,sd0,ad0,ld0,cd0,ap0,np0,cp0,sk0,ak0,lk0,ck0,vr0,ka0,kn0,kc0⟩,nd⟩:=m
   simp only[Mr.enc,mE,Nat.add_zero,List.getElem?_cons_zero,List.getElem?_cons_succ]at e0 e1 e2 e3 e4 e5 e6 e7 e8
   simp only[mE]at hcl
   dsimp only at hstep hex
   replace hn:=hide hn
   go_wp2_with fail
   refine hcl.out.mono ?_
   rintro x w2 ⟨rfl,k2⟩
   replace k2:=hide (grow_step k2 kr.out)
   clear hcl e0 e1 e2 e3 e4 e5 e6 e7 e8
   cases hil:(i==rul)with
   |true=>
    have hany:=hide (hex.out hil)
    clear hil hex hstep
    go_wp2
    go_ret
    exact⟨t,rfl,by rw[hany.out];simp,by omega,by omega,k2.out⟩
   |false=>
    have hst:=hide (hstep.out.trans hil)
    clear hil hex hstep
    go_wp2
    go_round
    case rel=>exact⟨t+1,by omega,by go_num,hst,k2⟩
    case measure=>simp[intOf];omega
  obtain rfl:t=n:=by omega
  have hall:Hid ((rs.any fun m=>m.id==rul)=false):=by
   have h1:=hno.out
   rw[List.take_of_length_le o_m]at h1
   exact h1
  clear hno h
  go_wp2
  go_ret
  exact⟨-1,rfl,by rw[hall.out];rfl,by omega,by omega,kr.out⟩
theorem containsM_n {base n:Nat}{v:Value}{rs:List Mr}(h:w.ownsRow base 233 9 v n (flat9 rs))(hn:rs.length=n)(hm:n≤1048000):
  Calls Tryz.prog 182 #[v,.func (.func 183) #[.agg (lwV kd dual idle rul K)] #[]] w fun x w'=>x= .returned (.bool (rs.any fun m=>m.id==rul))∧Below w.heap.size w w':=by
 have hix:=hide (indexM_n (kd:=kd) (dual:=dual) (idle:=idle) (rul:=rul) (K:=K) h hn hm)
 clear h
 go_enter Tryz.func182,Tryz.ntmps182
 go_wp2_with fail
 refine hix.out.mono ?_
 rintro x w1 ⟨i,rfl,h1,h2,h3,k1⟩
 replace k1:=hide k1
 replace h1:=hide h1
 clear hix
 go_wp2
 go_ret
 exact⟨by rw[←h1.out];rfl,k1.out⟩
end Nt
end Go.Proofs.YtbgpddlcfiiiaaaGreatDoor

namespace Go.Proofs.YtbgpddlcfiiiaaaGreatDoor
open Tm At
namespace Nt
open Od

variable {rs cur:List Mr}{e k:Nat}
theorem dd_one (q:Mr→Mr→Bool){rs:List Mr}(h:0<rs.length):dd q (rs.take 1)=rs.take 1:=by
 cases rs with
 |nil=>simp at h
 |cons x t=>rfl
theorem dd_grow {q:Mr→Mr→Bool}(h1:1≤e)(he:e<rs.length)(h:dd q (rs.take e)=rs.take e)(hq:q rs[e] (rs[e-1]'o_m)=false):dd q (rs.take (e+1))=rs.take (e+1):=by
 obtain⟨d,rfl⟩: ∃d,e=d+1:=⟨e-1,by omega⟩
 have hq':q rs[d+1] (rs[d]'o_m)=false:=hq
 rw[dd_take he,hq',if_neg (by simp),h,←List.take_succ_eq_append_getElem he]
structure Cp (q:Mr→Mr→Bool) (rs cur:List Mr) (e k:Nat):Prop where
 len:cur.length=rs.length
 lo:1≤k
 hi:k<e
 en:e≤rs.length
 fr:cur.take k=dd q (rs.take e)
 bk: ∀i,e≤i+1→cur[i]? =rs[i]?
theorem Cp.start {q:Mr→Mr→Bool}(h1:1≤e)(he:e<rs.length)(h:dd q (rs.take e)=rs.take e)(hq:q rs[e] (rs[e-1]'o_m)=true):Cp q rs rs (e+1) e:=by
 obtain⟨d,rfl⟩: ∃d,e=d+1:=⟨e-1,by omega⟩
 have hq':q rs[d+1] (rs[d]'o_m)=true:=hq
 exact⟨rfl,h1,by omega,he,by rw[dd_take he,hq',if_pos rfl,List.append_nil,h],fun _ _=>rfl⟩
theorem Cp.at {q:Mr→Mr→Bool}(h:Cp q rs cur e k){i:Nat}(hi:e≤i+1)(hn:i<rs.length):cur[i]'(by rw[h.len];exact hn)=rs[i]:=by
 have:=h.bk i hi
 rw[List.getElem?_eq_getElem (by rw[h.len];exact hn),List.getElem?_eq_getElem hn]at this
 exact Option.some.inj this
theorem Cp.skip {q:Mr→Mr→Bool}(h:Cp q rs cur e k)(he:e<rs.length)(hq:q rs[e] (rs[e-1]'o_m)=true):Cp q rs cur (e+1) k:=by
 have h1:=h.lo
 have h2:=h.hi
 obtain⟨d,rfl⟩: ∃d,e=d+1:=⟨e-1,by omega⟩
 have hq':q rs[d+1] (rs[d]'o_m)=true:=hq
 exact⟨h.len,h1,by omega,he,by rw[dd_take he,hq',if_pos rfl,List.append_nil,h.fr],fun i hi=>h.bk i o_m⟩
theorem Cp.put {q:Mr→Mr→Bool}(h:Cp q rs cur e k)(he:e<rs.length)(hq:q rs[e] (rs[e-1]'o_m)=false):Cp q rs (cur.set k rs[e]) (e+1) (k+1):=by
 have h1:=h.lo
 have h2:=h.hi
 have hl:=h.len
 obtain⟨d,rfl⟩: ∃d,e=d+1:=⟨e-1,by omega⟩
 have hq':q rs[d+1] (rs[d]'o_m)=false:=hq
 refine⟨by rw[List.length_set,hl],by omega,by omega,he,?_,fun i hi=> ?_⟩
 ·rw[dd_take he,hq',if_neg (by simp),←h.fr,List.take_succ_eq_append_getElem (by rw[List.length_set];omega),List.getElem_set_self,List.take_set_of_le (Nat.le_refl k)]
 rw[List.getElem?_set_ne o_m]
 exact h.bk i o_m
theorem Cp.done {q:Mr→Mr→Bool}(h:Cp q rs cur rs.length k):cur.take k=dd q rs:=by
 rw[h.fr,List.take_length]
end Nt
end Go.Proofs.YtbgpddlcfiiiaaaGreatDoor

namespace Go.Proofs.YtbgpddlcfiiiaaaGreatDoor
open Go.RowKit Go.Sort Go.Shelf
open Tm At
namespace Nt

variable {cur:Array Value}{o:Nat}
def zM :Value:=.agg #[.int .i64 0,.int .i64 0,.bool false,.slice none 0 0,.slice none 0 0,.bool false,.slice none 0 0,.int .i64 0,.slice none 0 0]
theorem zM_len (m:Nat):(Builtin.zeroCells zM.cells m).toList.length=m*9:=by
 simp[Builtin.zeroCells,zM,Value.cells]
theorem zM_one (m:Nat): ∀v∈(Builtin.zeroCells zM.cells m).toList,v.oneCell'=true:=by
 intro v hv
 simp only[Builtin.zeroCells,zM,Value.cells,Array.toList_map,List.mem_map]at hv
 obtain⟨i,_,rfl⟩:=hv
 have h9:i%9<9:=Nat.mod_lt _ (by decide)
 change (#[Value.int .i64 0,.int .i64 0,.bool false,.slice none 0 0,.slice none 0 0,.bool false,.slice none 0 0,.int .i64 0,.slice none 0 0][i%9]!).oneCell'=true
 generalize i%9=q at h9
 match q,h9 with
 |0,_=>rfl
 |1,_=>rfl
 |2,_=>rfl
 |3,_=>rfl
 |4,_=>rfl
 |5,_=>rfl
 |6,_=>rfl
 |7,_=>rfl
 |8,_=>rfl
def clr9 (cur:Array Value)(o m:Nat):Array Value:=(cur.toList.take o++(Builtin.zeroCells zM.cells m).toList++cur.toList.drop (o+m*9)).toArray
theorem clr9_size {m:Nat}(h:o+m*9≤cur.size):(clr9 cur o m).size=cur.size:=by
 unfold clr9
 rw[List.size_toArray,List.length_append,List.length_append,zM_len,List.length_take,List.length_drop,Array.length_toList]
 omega
theorem clr9_take {m:Nat}(h:o+m*9≤cur.size){j:Nat}(hj:j≤o):(clr9 cur o m).toList.take j=cur.toList.take j:=by
 unfold clr9
 rw[List.append_assoc,List.take_append_of_le_length (by rw[List.length_take,Array.length_toList];omega),List.take_take,Nat.min_eq_left hj]
theorem clear_members {w:World}{g k c:Nat}(hg:w.heap[g]? =some (.cells cur 233 (0,0)))(hs:o+(k+1)*9≤cur.size)(ty:TypeId):
  (Builtin.clear_ #[228] ty #[.slice (some ⟨g,o,none⟩) (k+1) c]).run Tryz.prog w= .ok (.tuple #[]) (w.setRow g (clr9 cur o (k+1))):=by
 have hst:=run_storeCells_at (P:=Tryz.prog) g o 233 (Builtin.zeroCells zM.cells (k+1)).toList 0 cur w hg (by rw[zM_len];omega) (zM_one (k+1))
 rw[zM_len]at hst
 simp only[Nat.add_zero]at hst
 have hst2:(storeCells ⟨g,o,none⟩ (Builtin.zeroCells zM.cells (k+1)).toList 0).run Tryz.prog w= .ok () (w.setRow g (clr9 cur o (k+1))):=hst
 simp only[zM]at hst2 ⊢
 simp[Builtin.clear_,run_underlying Tryz.underlying228,hst2]
theorem RB9.cut {w:World}{g cap:Nat}{rs:List Mr}(h:RB9 w g cap rs cur){k m:Nat}(hk:k+m≤rs.length):RB9 (w.setRow g (clr9 cur (k*9) m)) g cap (rs.take k) (clr9 cur (k*9) m):=by
 have hl:=h.l
 have hs:=h.s
 have hb:k*9+m*9≤cur.size:=by omega
 have hkl:(rs.take k).length=k:=by rw[List.length_take];omega
 refine⟨setRow_heap w g cur _ _ _ h.b,by rw[clr9_size hb,hs],by omega,?_⟩
 rw[hkl,clr9_take hb (Nat.le_refl _)]
 refine Eq.trans ?_ (rb9_of (cur:=cur) (rs:=rs.take k) fun i hi c hc=> ?_)
 ·rw[hkl]
 rw[h.get o_m hc,List.getElem_take]
theorem setRow_grown (w:World)(g:Nat)(cs:Array Value):w.grownBy (w.setRow g cs) (some g):=
 ⟨rfl,rfl,rfl,by simp[World.setRow],fun k _ hk=>setRow_other w g k cs (fun e=>hk (by rw[e]))⟩
end Nt
namespace Nt

theorem below_drew2 {w w':World}(h:Below w.heap.size w w'):Below w.heap.size w w'.drew:=⟨h.os,h.tape,h.output,h.size,h.block⟩
theorem gb_below {w w' w'':World}{g:Option Nat}(h:w.grownBy w' g)(k:Below w'.heap.size w' w''):w.grownBy w'' g:=⟨k.os.trans h.os,k.tape.trans h.tape,k.output.trans h.output,Nat.le_trans h.size k.size,fun i hi hn=>(k.block i (Nat.lt_of_lt_of_le hi h.size)).trans (h.block i hi hn)⟩
theorem compact_n {w:World}{g cap n K:Nat}{c1 cur:Array Value}{rs:List Mr}{q:Mr→Mr→Bool}(hR:RB9 w g cap rs cur)(hn:rs.length=n)(hb:n≤1048000)(_hg:g<w.heap.size)
  (eg: ∀args w,(callFunc K args).run Tryz.prog w= .ok (.enter K args) w)
  (hq: ∀w' (x y:Mr),x∈rs→y∈rs→w.grownBy w' (some g)→Calls Tryz.prog K (#[.agg (mE x.id x.x),.agg (mE y.id y.x)]++c1) w' fun e w''=>e= .returned (.bool (q x y))∧Below w'.heap.size w' w''):
  Calls Tryz.prog 213 #[.slice (some ⟨g,0,none⟩) n cap,.func (.func K) #[] c1] w fun e w'=> ∃cur',e= .returned (.slice (some ⟨g,0,none⟩) (dd q rs).length cap)∧RB9 w' g cap (dd q rs) cur'∧w.grownBy w' (some g):=by
 have hcap:=hR.l
 have hgb:Hid (∀w',Below w.heap.size w w'→w.grownBy w' (some g)):=hide fun w' k=>⟨k.os,k.tape,k.output,k.size,fun i hi _=>k.block i hi⟩
 have hcy:Hid (∀s,s<n→∀w' rs' cur',rs'.length=n→RB9 w' g cap rs' cur'→∀j,j<9→w'.cell? ⟨g,s*9+j,none⟩=(gm rs' s).enc[j]?):=hide fun s hs w' rs' cur' hl h j hj=>by
  rw[gm_get o_m]
  exact h.cell o_m hj
 have hC:Hid (∀t s w',t<n→s<n→w.grownBy w' (some g)→Calls Tryz.prog K (#[.agg (mE (gm rs t).id (gm rs t).x),.agg (mE (gm rs s).id (gm rs s).x)]++c1) w' fun e w''=>e= .returned (.bool (q (gm rs t) (gm rs s)))∧Below w'.heap.size w' w''):=hide fun t s w' ht hs k=>hq w' _ _ (gm_mem o_m) (gm_mem o_m) k
 clear hq
 replace hn:=hide hn
 replace hR:=hide hR
 go_enter Tryz.func213,Tryz.ntmps213
 by_cases h2:n<2
 ·go_wp2_with fail
  have hd:dd q rs=rs:=by
   have hl:=hn.out
   rcases rs with _|⟨x,_|⟨y,t⟩⟩
   ·rfl
   ·rfl
   simp at hl
   omega
  go_ret
  refine⟨cur,?_,by rw[hd];exact hR.out,hgb.out _ (Below.refl _ _)⟩
  rw[hd,hn.out]
  rfl
 go_wp2_with fail
 go_loopw [5] (fun k wr=> ∃t:Nat,1≤t∧t≤n∧k= .int .i64 t∧Hid (dd q (rs.take t)=rs.take t)∧Hid (Below w.heap.size w wr)) (fun k _=>n-(intOf k).toNat)
 case atStart=>exact⟨1,by omega,by omega,rfl,hide (dd_one q (by have:=hn.out;omega)),hide (Below.refl _ _)⟩
 case round=>
  obtain⟨t,ht1,ht,rfl,hd,kr⟩:=hrel
  by_cases htn:t<n
  ·obtain⟨t,rfl⟩: ∃t',t=t'+1:=⟨t-1,by omega⟩
   have hRr:=hide (hR.out.below kr.out)
   have hcx:Hid (∀w',Below w.heap.size w w'→∀c,c<9→w'.cell? ⟨g,(t+1)*9+c,none⟩=(gm rs (t+1)).enc[c]?):=hide fun w' k=>hcy.out (t+1) htn w' rs cur hn.out (hR.out.below k)
   have hcz:Hid (∀w',Below w.heap.size w w'→∀c,c<9→w'.cell? ⟨g,t*9+c,none⟩=(gm rs t).enc[c]?):=hide fun w' k=>hcy.out t o_m w' rs cur hn.out (hR.out.below k)
   have hDc:=hide (fun w' (k:Below w.heap.size w w')=>hC.out (t+1) t w' htn o_m (hgb.out w' k))
   have hstep:Hid (q (gm rs (t+1)) (gm rs t)=false→dd q (rs.take (t+2))=rs.take (t+2)):=hide fun e=>dd_grow ht1 (by have:=hn.out;omega) hd.out (by rw[gm_get (by have:=hn.out;omega),gm_get (by have:=hn.out;omega)]at e;exact e)
   have hgo:Hid (q (gm rs (t+1)) (gm rs t)=true→Cp q rs rs (t+2) (t+1)):=hide fun e=>Cp.start ht1 (by have:=hn.out;omega) hd.out (by rw[gm_get (by have:=hn.out;omega),gm_get (by have:=hn.out;omega)]at e;exact e)
   generalize gm rs (t+1)=mx at*
   generalize gm rs t=my at*
   obtain⟨i,⟨kd1,sd1,ad1,ld1,cd1,ap1,np1,cp1,sk1,ak1,lk1,ck1,vr1,ka1,kn1,kc1⟩,nx⟩:=mx
   obtain⟨j,⟨kd2,sd2,ad2,ld2,cd2,ap2,np2,cp2,sk2,ak2,lk2,ck2,vr2,ka2,kn2,kc2⟩,ny⟩:=my
   generalize q _ _=qv at*
   simp only[mE]at hDc
   have h01:(0:Int)≤(t:Int)+1:=by omega
   have h02:(0:Int)≤(t:Int):=by omega
   have hsub:((t:Int)+1-1)=(t:Int):=by omega
   have hlt2:(t:Int)<(n:Int):=by omega
   have hwr:IntKind.i64.wrap (t:Int)=(t:Int):=by unfold IntKind.wrap;simp[IntKind.bits,IntKind.signed];omega
   have hS:Hid (∀w',Below w.heap.size w w'→w'.cell? ⟨g,(t+1)*9,none⟩=some (.int .i64 i)∧w'.cell? ⟨g,(t+1)*9+1,none⟩=some (.int .i64 kd1)∧w'.cell? ⟨g,(t+1)*9+2,none⟩=some (.bool sd1)∧w'.cell? ⟨g,(t+1)*9+3,none⟩=some (.slice ad1 ld1 cd1)∧w'.cell? ⟨g,(t+1)*9+4,none⟩=some (.slice ap1 np1 cp1)∧w'.cell? ⟨g,(t+1)*9+5,none⟩=some (.bool sk1)∧w'.cell? ⟨g,(t+1)*9+6,none⟩=some (.slice ak1 lk1 ck1)∧w'.cell? ⟨g,(t+1)*9+7,none⟩=some (.int .i64 vr1)∧w'.cell? ⟨g,(t+1)*9+8,none⟩=some (.slice ka1 kn1 kc1)∧w'.cell? ⟨g,t*9,none⟩=some (.int .i64 j)∧w'.cell? ⟨g,t*9+1,none⟩=some (.int .i64 kd2)∧w'.cell? ⟨g,t*9+2,none⟩=some (.bool sd2)∧w'.cell? ⟨g,t*9+3,none⟩=some (.slice ad2 ld2 cd2)∧w'.cell? ⟨g,t*9+4,none⟩=some (.slice ap2 np2 cp2)∧w'.cell? ⟨g,t*9+5,none⟩=some (.bool sk2)∧w'.cell? ⟨g,t*9+6,none⟩=some (.slice ak2 lk2 ck2)∧w'.cell? ⟨g,t*9+7,none⟩=some (.int .i64 vr2)∧w'.cell? ⟨g,t*9+8,none⟩=some (.slice ka2 kn2 kc2)∧Below w.heap.size w w'):=hide fun w' k=>by
    have c1:=hcx.out w' k
    have c2:=hcz.out w' k
    exact⟨c1 0 (by decide),c1 1 (by decide),c1 2 (by decide),c1 3 (by decide),c1 4 (by decide),c1 5 (by decide),c1 6 (by decide),c1 7 (by decide),c1 8 (by decide),c2 0 (by decide),c2 1 (by decide),c2 2 (by decide),c2 3 (by decide),c2 4 (by decide),c2 5 (by decide),c2 6 (by decide),c2 7 (by decide),c2 8 (by decide),k⟩
   clear hcx hcz
   go_wp2_with fail
   refine wp_region_held_drew (S:=fun w'=>w'.cell? ⟨g,(t+1)*9,none⟩=some (.int .i64 i)∧w'.cell? ⟨g,(t+1)*9+1,none⟩=some (.int .i64 kd1)∧w'.cell? ⟨g,(t+1)*9+2,none⟩=some (.bool sd1)∧w'.cell? ⟨g,(t+1)*9+3,none⟩=some (.slice ad1 ld1 cd1)∧w'.cell? ⟨g,(t+1)*9+4,none⟩=some (.slice ap1 np1 cp1)∧w'.cell? ⟨g,(t+1)*9+5,none⟩=some (.bool sk1)∧w'.cell? ⟨g,(t+1)*9+6,none⟩=some (.slice ak1 lk1 ck1)∧w'.cell? ⟨g,(t+1)*9+7,none⟩=some (.int .i64 vr1)∧w'.cell? ⟨g,(t+1)*9+8,none⟩=some (.slice ka1 kn1 kc1)∧w'.cell? ⟨g,t*9,none⟩=some (.int .i64 j)∧w'.cell? ⟨g,t*9+1,none⟩=some (.int .i64 kd2)∧w'.cell? ⟨g,t*9+2,none⟩=some (.bool sd2)∧w'.cell? ⟨g,t*9+3,none⟩=some (.slice ad2 ld2 cd2)∧w'.cell? ⟨g,t*9+4,none⟩=some (.slice ap2 np2 cp2)∧w'.cell? ⟨g,t*9+5,none⟩=some (.bool sk2)∧w'.cell? ⟨g,t*9+6,none⟩=some (.slice ak2 lk2 ck2)∧w'.cell? ⟨g,t*9+7,none⟩=some (.int .i64 vr2)∧w'.cell? ⟨g,t*9+8,none⟩=some (.slice ka2 kn2 kc2)∧Below w.heap.size w w') k_f (hS.out _ (below_drew2 kr.out)) (fun hHeld=> ?_)
   show wpAnyH _ _ _ _ _ 11 _ _ _
   refine tkz 0 18 ?_
   (try simp only[pz])
   refine tkz 1 19 ?_
   (try simp only[pz])
   refine tkz 2 20 ?_
   (try simp only[pz])
   refine tkz 3 21 ?_
   (try simp only[pz])
   refine tkz 4 22 ?_
   (try simp only[pz])
   refine tkz 5 23 ?_
   (try simp only[pz])
   refine tkz 6 24 ?_
   (try simp only[pz])
   refine tkz 7 25 ?_
   (try simp only[pz])
   refine tkz 8 26 ?_
   (try simp only[pz])
   refine tkz 9 27 ?_
   (try simp only[pz])
   refine ryz 10 (some 28) (fun K' hK=> ?_) AllReadyH.nil
   clear hHeld
   rw[if_pos k_f]
   go_simp
   refine Calls.mono (hDc.out _ (below_drew2 kr.out)) ?_
   rintro e w3 ⟨rfl,k3⟩
   have k4:=hide (grow_step k3 (below_drew2 kr.out))
   clear hDc k3
   (try go_wp2_with fail)
   refine hK.out _ _ ?_ ?_
   ·(try dsimp only);exact hS.out _ k4.out
   clear hK;intro hHeld
   (try simp only[pz])
   clear hHeld hS
   refine wpAnyH_done k_f ?_ _
   cases qv with
   |false=>
    have hd2:=hide (hstep.out rfl)
    clear hstep hgo hcy hC hR hRr hgb hd kr h01 h02 hsub hlt2 hwr
    go_wp2_with fail
    exact⟨⟨t+2,by omega,by omega,by go_num,hd2,k4⟩,by simp[intOf];omega⟩
   |true=>
    have hcp:=hide (hgo.out rfl)
    have hR3:=hide (hR.out.below k4.out)
    have g3:=hide (hgb.out _ k4.out)
    have hnc:n≤cap:=by have:=hn.out;omega
    have hcn: ¬cap=t+1:=by omega
    clear hstep hgo hR hRr hgb hd kr h01 h02 hsub hlt2 hwr k4
    go_wp2_with fail
    go_loopw [5,7] (fun kv mv wi=> ∃(m k:Nat) (cl:List Mr) (cv:Array Value),1≤m∧t+1+m≤n∧1≤k∧k<t+1+m∧kv= .int .i64 k∧mv= .int .i64 m∧Hid (Cp q rs cl (t+1+m) k)∧Hid (RB9 wi g cap cl cv)∧Hid (w.grownBy wi (some g))) (fun _ mv _=>n-(intOf mv).toNat)
    case atStart=>exact⟨1,t+1,rs,cur,by omega,by omega,by omega,by omega,rfl,rfl,hcp,hR3,g3⟩
    case round=>
     obtain⟨m,k,cl,cv,hm1,hmn,hk1,hkm,rfl,rfl,hC2,hRi,gi⟩:=hrel
     clear hcp hR3 g3
     by_cases hlt:t+1+m<n
     ·obtain⟨m,rfl⟩: ∃m',m=m'+1:=⟨m-1,by omega⟩
      have hcl:Hid (cl.length=n):=hide (hC2.out.len.trans hn.out)
      have hex:gm cl (t+1+(m+1))=gm rs (t+1+(m+1)):=by
       have h1:=hn.out
       have h3:=hC2.out.at (i:=t+1+(m+1)) o_m o_m
       rw[gm_get (by rw[hcl.out];omega),gm_get o_m,h3]
      have hey:gm cl (t+1+m)=gm rs (t+1+m):=by
       have h1:=hn.out
       have h3:=hC2.out.at (i:=t+1+m) o_m o_m
       rw[gm_get (by rw[hcl.out];omega),gm_get o_m,h3]
      have hcx:Hid (∀w',Below wr.heap.size wr w'→∀c,c<9→w'.cell? ⟨g,(t+1)*9+(m+1)*9+c,none⟩=(gm rs (t+1+(m+1))).enc[c]?):=hide fun w' k c hc=>by
       have h1:=hcy.out (t+1+(m+1)) hlt w' cl cv hcl.out (hRi.out.below k) c hc
       rw[hex,show(t+1+(m+1))*9=(t+1)*9+(m+1)*9 by omega]at h1
       exact h1
      have hcz:Hid (∀w',Below wr.heap.size wr w'→∀c,c<9→w'.cell? ⟨g,(t+1)*9+m*9+c,none⟩=(gm rs (t+1+m)).enc[c]?):=hide fun w' k c hc=>by
       have h1:=hcy.out (t+1+m) o_m w' cl cv hcl.out (hRi.out.below k) c hc
       rw[hey,show(t+1+m)*9=(t+1)*9+m*9 by omega]at h1
       exact h1
      have hck:Hid (∀w',Below wr.heap.size wr w'→∀c,c<9→w'.cell? ⟨g,k*9+c,none⟩=(gm cl k).enc[c]?):=hide fun w' k' c hc=>hcy.out k o_m w' cl cv hcl.out (hRi.out.below k') c hc
      have hfz:Hid (∀w',Below wr.heap.size wr w'→∀off,w'.frozen? ⟨g,off,none⟩=false):=hide fun w' k' off=>frozen_of_row w' g _ _ _ (hRi.out.below k').b
      have hDc:=hide (fun w' (k:Below wr.heap.size wr w')=>hC.out (t+1+(m+1)) (t+1+m) w' hlt o_m (gb_below gi.out k))
      have hskip:Hid (q (gm rs (t+1+(m+1))) (gm rs (t+1+m))=true→Cp q rs cl (t+1+(m+1)+1) k):=hide fun e=>hC2.out.skip (by have:=hn.out;omega) (by rw[gm_get (by have:=hn.out;omega),gm_get (by have:=hn.out;omega)]at e;exact e)
      have hput:Hid (q (gm rs (t+1+(m+1))) (gm rs (t+1+m))=false→Cp q rs (cl.set k (gm rs (t+1+(m+1)))) (t+1+(m+1)+1) (k+1)):=hide fun e=>by
       have h3:=hC2.out.put (by have:=hn.out;omega) (by rw[gm_get (by have:=hn.out;omega),gm_get (by have:=hn.out;omega)]at e;exact e)
       rw[gm_get (by have:=hn.out;omega)]
       exact h3
      have hset:Hid (∀w',Below wr.heap.size wr w'→RB9 (wset9 w' g k (gm rs (t+1+(m+1)))) g cap (cl.set k (gm rs (t+1+(m+1)))) (set9 cv k (gm rs (t+1+(m+1))))∧w.grownBy (wset9 w' g k (gm rs (t+1+(m+1)))) (some g)):=hide fun w' k'=>⟨(hRi.out.below k').set (by rw[hcl.out];omega) _,gb_trans (gb_below gi.out k') (wset9_grown _ _ _ _)⟩
      clear hex hey hcl
      generalize gm rs (t+1+(m+1))=mx at*
      generalize gm rs (t+1+m)=my at*
      generalize gm cl k=mz at*
      obtain⟨i3,⟨kd3,sd3,ad3,ld3,cd3,ap3,np3,cp3,sk3,ak3,lk3,ck3,vr3,ka3,kn3,kc3⟩,nx3⟩:=mx
      obtain⟨i4,⟨kd4,sd4,ad4,ld4,cd4,ap4,np4,cp4,sk4,ak4,lk4,ck4,vr4,ka4,kn4,kc4⟩,ny4⟩:=my
      obtain⟨i5,⟨kd5,sd5,ad5,ld5,cd5,ap5,np5,cp5,sk5,ak5,lk5,ck5,vr5,ka5,kn5,kc5⟩,nz5⟩:=mz
      generalize q _ _=qv at*
      simp only[mE]at hDc
      have h01:(0:Int)≤(m:Int)+1:=by omega
      have h02:(0:Int)≤(m:Int):=by omega
      have hsub:((m:Int)+1-1)=(m:Int):=by omega
      have hl1:(m:Int)+1<((n-(t+1):Nat):Int):=by omega
      have hl2:(m:Int)<((n-(t+1):Nat):Int):=by omega
      have hwr:IntKind.i64.wrap (m:Int)=(m:Int):=by unfold IntKind.wrap;simp[IntKind.bits,IntKind.signed];omega
      have hS:Hid (∀w',Below wr.heap.size wr w'→w'.cell? ⟨g,(t+1)*9+(m+1)*9,none⟩=some (.int .i64 i3)∧w'.cell? ⟨g,(t+1)*9+(m+1)*9+1,none⟩=some (.int .i64 kd3)∧w'.cell? ⟨g,(t+1)*9+(m+1)*9+2,none⟩=some (.bool sd3)∧w'.cell? ⟨g,(t+1)*9+(m+1)*9+3,none⟩=some (.slice ad3 ld3 cd3)∧w'.cell? ⟨g,(t+1)*9+(m+1)*9+4,none⟩=some (.slice ap3 np3 cp3)∧w'.cell? ⟨g,(t+1)*9+(m+1)*9+5,none⟩=some (.bool sk3)∧w'.cell? ⟨g,(t+1)*9+(m+1)*9+6,none⟩=some (.slice ak3 lk3 ck3)∧w'.cell? ⟨g,(t+1)*9+(m+1)*9+7,none⟩=some (.int .i64 vr3)∧w'.cell? ⟨g,(t+1)*9+(m+1)*9+8,none⟩=some (.slice ka3 kn3 kc3)∧w'.cell? ⟨g,(t+1)*9+m*9,none⟩=some (.int .i64 i4)∧w'.cell? ⟨g,(t+1)*9+m*9+1,none⟩=some (.int .i64 kd4)∧w'.cell? ⟨g,(t+1)*9+m*9+2,none⟩=some (.bool sd4)∧w'.cell? ⟨g,(t+1)*9+m*9+3,none⟩=some (.slice ad4 ld4 cd4)∧w'.cell? ⟨g,(t+1)*9+m*9+4,none⟩=some (.slice ap4 np4 cp4)∧w'.cell? ⟨g,(t+1)*9+m*9+5,none⟩=some (.bool sk4)∧w'.cell? ⟨g,(t+1)*9+m*9+6,none⟩=some (.slice ak4 lk4 ck4)∧w'.cell? ⟨g,(t+1)*9+m*9+7,none⟩=some (.int .i64 vr4)∧w'.cell? ⟨g,(t+1)*9+m*9+8,none⟩=some (.slice ka4 kn4 kc4)∧Below wr.heap.size wr w'):=hide fun w' k=>by
       have c1:=hcx.out w' k
       have c2:=hcz.out w' k
       exact⟨c1 0 (by decide),c1 1 (by decide),c1 2 (by decide),c1 3 (by decide),c1 4 (by decide),c1 5 (by decide),c1 6 (by decide),c1 7 (by decide),c1 8 (by decide),c2 0 (by decide),c2 1 (by decide),c2 2 (by decide),c2 3 (by decide),c2 4 (by decide),c2 5 (by decide),c2 6 (by decide),c2 7 (by decide),c2 8 (by decide),k⟩
      clear hcz
      go_wp2_with fail
      refine wp_region_held_drew (S:=fun w'=>w'.cell? ⟨g,(t+1)*9+(m+1)*9,none⟩=some (.int .i64 i3)∧w'.cell? ⟨g,(t+1)*9+(m+1)*9+1,none⟩=some (.int .i64 kd3)∧w'.cell? ⟨g,(t+1)*9+(m+1)*9+2,none⟩=some (.bool sd3)∧w'.cell? ⟨g,(t+1)*9+(m+1)*9+3,none⟩=some (.slice ad3 ld3 cd3)∧w'.cell? ⟨g,(t+1)*9+(m+1)*9+4,none⟩=some (.slice ap3 np3 cp3)∧w'.cell? ⟨g,(t+1)*9+(m+1)*9+5,none⟩=some (.bool sk3)∧w'.cell? ⟨g,(t+1)*9+(m+1)*9+6,none⟩=some (.slice ak3 lk3 ck3)∧w'.cell? ⟨g,(t+1)*9+(m+1)*9+7,none⟩=some (.int .i64 vr3)∧w'.cell? ⟨g,(t+1)*9+(m+1)*9+8,none⟩=some (.slice ka3 kn3 kc3)∧w'.cell? ⟨g,(t+1)*9+m*9,none⟩=some (.int .i64 i4)∧w'.cell? ⟨g,(t+1)*9+m*9+1,none⟩=some (.int .i64 kd4)∧w'.cell? ⟨g,(t+1)*9+m*9+2,none⟩=some (.bool sd4)∧w'.cell? ⟨g,(t+1)*9+m*9+3,none⟩=some (.slice ad4 ld4 cd4)∧w'.cell? ⟨g,(t+1)*9+m*9+4,none⟩=some (.slice ap4 np4 cp4)∧w'.cell? ⟨g,(t+1)*9+m*9+5,none⟩=some (.bool sk4)∧w'.cell? ⟨g,(t+1)*9+m*9+6,none⟩=some (.slice ak4 lk4 ck4)∧w'.cell? ⟨g,(t+1)*9+m*9+7,none⟩=some (.int .i64 vr4)∧w'.cell? ⟨g,(t+1)*9+m*9+8,none⟩=some (.slice ka4 kn4 kc4)∧Below wr.heap.size wr w') k_f (hS.out _ (below_drew2 (Below.refl _ _))) (fun hHeld=> ?_)
      show wpAnyH _ _ _ _ _ 12 _ _ _
      refine tkz 0 38 ?_
      (try simp only[pz])
      refine tkz 1 39 ?_
      (try simp only[pz])
      refine tkz 2 40 ?_
      (try simp only[pz])
      refine tkz 3 41 ?_
      (try simp only[pz])
      refine tkz 4 42 ?_
      (try simp only[pz])
      refine tkz 5 43 ?_
      (try simp only[pz])
      refine tkz 6 44 ?_
      (try simp only[pz])
      refine tkz 7 45 ?_
      (try simp only[pz])
      refine tkz 8 46 ?_
      (try simp only[pz])
      refine tkz 9 47 ?_
      (try simp only[pz])
      refine ryz 10 (some 48) (fun K' hK=> ?_) AllReadyH.nil
      clear hHeld
      rw[if_pos k_f]
      go_simp
      refine Calls.mono (hDc.out _ (below_drew2 (Below.refl _ _))) ?_
      rintro e w3 ⟨rfl,k3⟩
      have k4:=hide (grow_step k3 (below_drew2 (Below.refl wr.heap.size wr)))
      clear hDc k3
      (try go_wp2_with fail)
      refine hK.out _ _ ?_ ?_
      ·(try dsimp only);exact hS.out _ k4.out
      clear hK;intro hHeld
      (try simp only[pz])
      refine ryz 11 (some 49) (fun K' hK=> ?_) AllReadyH.nil
      clear hHeld
      rw[if_pos k_f]
      go_simp
      refine hK.out _ _ ?_ ?_
      ·(try dsimp only);exact hS.out _ k4.out
      clear hK;intro hHeld
      (try simp only[pz])
      clear hHeld hS
      refine wpAnyH_done k_f ?_ _
      cases qv with
      |true=>
       have h5:=hide (hskip.out rfl)
       have h6:=hide (hRi.out.below k4.out)
       have h7:=hide (gb_below gi.out k4.out)
       clear hskip hput hset hcx hck hfz hcy hC hC2 hRi gi k4 h01 h02 hsub hl1 hl2 hwr
       go_wp2_with fail
       exact⟨⟨m+2,k,cl,cv,by omega,by omega,by omega,by omega,rfl,by go_num,h5,h6,h7⟩,by simp[intOf];omega⟩
      |false=>
       have h5:=hide (hput.out rfl)
       have h6:=hset.out w3 k4.out
       simp only[wset9]at h6
       replace h6:=hide h6
       have c1:=hcx.out w3 k4.out
       have e0:=c1 0 (by decide)
       have e1:=c1 1 (by decide)
       have e2:=c1 2 (by decide)
       have e3:=c1 3 (by decide)
       have e4:=c1 4 (by decide)
       have e5:=c1 5 (by decide)
       have e6:=c1 6 (by decide)
       have e7:=c1 7 (by decide)
       have e8:=c1 8 (by decide)
       have c2:=hck.out w3 k4.out
       have u0:=c2 0 (by decide)
       have u1:=c2 1 (by decide)
       have u2:=c2 2 (by decide)
       have u3:=c2 3 (by decide)
       have u4':=c2 4 (by decide)
       have u5:=c2 5 (by decide)
       have u6':=c2 6 (by decide)
       have u7':=c2 7 (by decide)
       have u8:=c2 8 (by decide)
       have c3:=hfz.out w3 k4.out
       have f0:=c3 (k*9)
       have f1:=c3 (k*9+1)
       have f2:=c3 (k*9+2)
       have f3:=c3 (k*9+3)
       have f4:=c3 (k*9+4)
       have f5:=c3 (k*9+5)
       have f6:=c3 (k*9+6)
       have f7:=c3 (k*9+7)
       have f8:=c3 (k*9+8)
       clear c1 c2 c3
       simp only[Mr.enc,mE,Nat.add_zero,List.getElem?_cons_zero,List.getElem?_cons_succ]at e0 e1 e2 e3 e4 e5 e6 e7 e8 u0 u1 u2 u3 u4' u5 u6' u7' u8
       have hk0:(0:Int)≤(k:Int):=by omega
       have hkn:(k:Int)<(n:Int):=by omega
       clear hskip hput hset hcx hck hfz hcy hC hC2 hRi gi k4 h02 hsub hl2 hwr
       go_wp2_with fail
       exact⟨⟨m+2,k+1,_,_,by omega,by omega,by omega,by omega,by go_num,by go_num,h5,hide h6.out.1,hide h6.out.2⟩,by simp[intOf];omega⟩
     obtain rfl:n=t+1+m:=by omega
     have hlen:=hC2.out.len
     have hcl: ∀ty,(Builtin.clear_ #[228] ty #[.slice (some ⟨g,k*9,none⟩) (t+1+m-k) (cap-k)]).run Tryz.prog wr= .ok (.tuple #[]) (wr.setRow g (clr9 cv (k*9) (t+1+m-k))):=by
      intro ty
      have h1:=clear_members (c:=cap-k) (k:=t+1+m-k-1) (o:=k*9) hRi.out.b (by have:=hRi.out.s;have:=hn.out;omega) ty
      rw[show t+1+m-k-1+1=t+1+m-k by omega]at h1
      exact h1
     have hdn:cl.take k=dd q rs:=by
      have h1:=hC2.out
      rw[←hn.out]at h1
      exact h1.done
     have hdl:(dd q rs).length=k:=by
      rw[←hdn,List.length_take,hlen,hn.out]
      omega
     have hfin:=hRi.out.cut (k:=k) (m:=t+1+m-k) (by rw[hlen,hn.out];omega)
     rw[hdn]at hfin
     have hgf:=gb_trans gi.out (setRow_grown wr g (clr9 cv (k*9) (t+1+m-k)))
     replace hfin:=hide hfin
     replace hgf:=hide hgf
     replace hdl:=hide hdl
     have hck: ¬cap=k:=by omega
     have hk0:(0:Int)≤(k:Int):=by omega
     have hkn:(k:Int)≤((t+1+m:Nat):Int):=by omega
     have hkc:(k:Int)≤(cap:Int):=by omega
     clear hdn hC2 hRi gi hcy hC hlen
     go_wp2_with fail
     first|go_ret|(rw[Exit.noGoto_ret];go_ret)
     exact⟨_,by rw[hdl.out];rfl,hfin.out,hgf.out⟩
  obtain rfl:t=n:=by omega
  have hdd:dd q rs=rs:=by
   have h3:=hd.out
   rwa [List.take_of_length_le (Nat.le_of_eq hn.out)]at h3
  clear hcy hC
  go_wp2_with fail
  first|go_ret|(rw[Exit.noGoto_ret];go_ret)
  exact⟨cur,by rw[hdd,hn.out];rfl,by rw[hdd];exact hR.out.below kr.out,hgb.out _ kr.out⟩
end Nt
namespace Nt

variable {w:World}{s0 n:Nat}{v:Value}{rs:List Mr}
theorem sort9_row {K:Nat}{cb:Array Value}{ord:Mr→Mr→Int}(h:w.ownsRow s0 233 9 v n (flat9 rs))(hn:rs.length=n)(hnb:n≤1048000)
  (eg: ∀args w,(callFunc K args).run Tryz.prog w= .ok (.enter K args) w)(hl:Od.Lin ord)
  (hcmp: ∀w' (x y:Mr),x∈rs→y∈rs→w.grownBy w' v.ownBlock→Calls Tryz.prog K (#[.agg (mE x.id x.x),.agg (mE y.id y.x)]++cb) w' fun e w''=>e= .returned (.int .i64 (ord x y))∧Gr w' w''):
  Calls Tryz.prog 209 #[v,.func (.func K) #[] cb] w fun e w'=>e= .returned (.tuple #[])∧∃rs',rs'.Perm rs∧rs'.Pairwise (fun x y=> ¬ord y x<0)∧w'.ownsRow s0 233 9 v n (flat9 rs')∧w.grownBy w' v.ownBlock:=by
 by_cases h0:n=0
 ·subst h0
  have e0:rs= []:=List.eq_nil_of_length_eq_zero hn
  subst e0
  obtain⟨a,c,rfl⟩:=row9_form h
  refine(AnyF.slices_SortFunc_none Tryz.sortM a c _ w).mono ?_
  rintro e w' ⟨rfl,rfl⟩
  exact⟨rfl,[],List.Perm.refl _,List.Pairwise.nil,h,⟨rfl,rfl,rfl,Nat.le_refl _,fun _ _ _=>rfl⟩⟩
 rcases h.2 with⟨_,h1⟩|⟨g,cap,cur,rfl,e1,e2,e3,e4,e5,e6⟩
 ·exact absurd h1 h0
 have hne:rs≠ []:=fun e=>h0 (by rw[←hn,e];rfl)
 refine(sort9_n (cap:=cap) hn hne e2 e6 o_m eg (hl.on Subtype.val).swo hcmp).mono ?_
 rintro e w' ⟨rfl,rs',cur',p1,p2,p3,p4,p5,p6⟩
 refine⟨rfl,rs',p1,p2,⟨by rw[flat9_length,p1.length_eq,hn],.inr ⟨g,cap,cur',rfl,e1,p3,e3,e4,by rw[p4,e5],p5⟩⟩,p6⟩
theorem flat9_inj (h:w.ownsRow s0 233 9 v n (flat9 rs)):rs.length=n:=by
 have:=h.1
 rw[flat9_length]at this
 omega
theorem compact_none (w:World)(fv:Value):
  Calls Tryz.prog 213 #[.slice none 0 0,fv] w fun e w'=>e= .returned (.slice none 0 0)∧w'=w:=by
 go_enter Tryz.func213,Tryz.ntmps213
 go_wp2_with fail
 go_ret
 exact⟨rfl,rfl⟩
theorem compact_row {K:Nat}{c1:Array Value}{q:Mr→Mr→Bool}(h:w.ownsRow s0 233 9 v n (flat9 rs))(hn:rs.length=n)(hb:n≤1048000)
  (eg: ∀args w,(callFunc K args).run Tryz.prog w= .ok (.enter K args) w)
  (hq: ∀w' (x y:Mr),x∈rs→y∈rs→w.grownBy w' v.ownBlock→Calls Tryz.prog K (#[.agg (mE x.id x.x),.agg (mE y.id y.x)]++c1) w' fun e w''=>e= .returned (.bool (q x y))∧Below w'.heap.size w' w''):
  Calls Tryz.prog 213 #[v,.func (.func K) #[] c1] w fun e w'=> ∃v',e= .returned v'∧v'.ownBlock=v.ownBlock∧w'.ownsRow s0 233 9 v' (dd q rs).length (flat9 (dd q rs))∧w.grownBy w' v.ownBlock:=by
 rcases h.2 with⟨rfl,rfl⟩|⟨g,cap,cur,rfl,e1,e2,e3,e4,e5,e6⟩
 ·have e0:rs= []:=List.eq_nil_of_length_eq_zero hn
  subst e0
  refine(compact_none w _).mono ?_
  rintro e w' ⟨rfl,rfl⟩
  exact⟨_,rfl,rfl,h,⟨rfl,rfl,rfl,Nat.le_refl _,fun _ _ _=>rfl⟩⟩
 have hR:RB9 w g cap rs cur:=⟨e2,e5,by omega,by rw[hn];exact e6⟩
 refine(compact_n hR hn hb (lt_of_block e2) eg hq).mono ?_
 rintro e w' ⟨cur',rfl,hR',hg⟩
 exact⟨_,rfl,rfl,⟨by rw[flat9_length],.inr ⟨g,cap,cur',rfl,e1,hR'.b,hR'.l,e4,hR'.s,hR'.r⟩⟩,hg⟩
end Nt
namespace Nt
open Od

variable {w w0:World}{K n s0:Nat}{kd dual idle rul:Int}{v:Value}{rs:List Mr}
theorem gbo {w1 w2:World}{o:Option Nat}(h:w.grownBy w1 o)(k:w1.grownBy w2 o):w.grownBy w2 o:=⟨k.os.trans h.os,k.tape.trans h.tape,k.output.trans h.output,Nat.le_trans h.size k.size,fun i hi hn=>(k.block i (Nat.lt_of_lt_of_le hi h.size) hn).trans (h.block i hi hn)⟩
def LwK (K:Nat)(sg:Int):Prop:=(K=133∧sg=1)∨(K=149∧sg= -1)
theorem LwK.ord {sg:Int}(hK:LwK K sg):OrdC K sg:=by
 rcases hK with⟨rfl,rfl⟩|⟨rfl,rfl⟩
 ·exact ordC_and
 exact ordC_or
theorem stay1_any {i j:Int}{x y:NR}{n m:Nd}{F G:Nat→Prop}{sg:Int}{bl:Nat}(hK:LwK K sg)(hL:LwB w bl kd dual idle rul K)(hx:NC F w x n 2097152)(h0:n.ps≠ [])(hy:NC G w y m 2097152)(h02:m.ps≠ []):
  Calls Tryz.prog 210 #[.agg (mE i x),.agg (mE j y),.pointer (some ⟨bl,0,none⟩)] w fun e w'=>e= .returned (.int .i64 (ordS sg n.ps n.k m.ps m.k))∧Gr w w':=by
 have h1:=hx.hnp
 exact stay1 hK.ord hL hx.pn.pn h0 hx.zk hy.pn.pn h02 hy.zk o_m o_m hx.hlk hy.hlk
theorem qS_of (x y:Mr):qS x y=(neg1 x.n.ps==neg1 y.n.ps&&ordL (lnP x.n.ps) (lnP y.n.ps)==0):=by
 unfold qS
 rw[Bool.eq_iff_iff,decide_eq_true_eq,Bool.and_eq_true,beq_iff_eq,beq_iff_eq]
 constructor
 ·intro e
  rw[e]
  exact⟨rfl,ordL_zero.2 rfl⟩
 rintro⟨e1,e2⟩
 exact ln_same (ordL_zero.1 e2) e1
structure Lie (w0 w:World) (s0:Nat) (rs:List Mr):Prop where
 ok: ∀m∈rs,m.ok w0 2097152
 k:Below w0.heap.size w0 w
 s:w0.heap.size≤s0
theorem Lie.at {w':World}(h:Lie w0 w s0 rs)(hv:w.ownsRow s0 233 9 v n (flat9 rs))(g:w.grownBy w' v.ownBlock):Below w0.heap.size w0 w':=
 h.k.grown g h.k.size fun b hb=>Nat.le_trans h.s (hv.lt b hb).1
theorem staying_n {sg:Int}(hK:LwK K sg)(h:w.ownsRow s0 233 9 v n (flat9 rs))(hb:n≤1048000)(hl:Lie w0 w s0 rs):
  Calls Tryz.prog 185 #[.agg (lwV kd dual idle rul K),v] w fun e w'=> ∃v' ls d,e= .returned v'∧ls.Perm rs∧Left9 sg ls d∧w'.ownsRow s0 233 9 v' d.length (flat9 d)∧v'.ownBlock=v.ownBlock∧w.grownBy w' v.ownBlock:=by
 obtain⟨av,cv,rfl⟩:=row9_form h
 have hn:=flat9_inj h
 have b0:=below_alloc w (.cells #[.int .i64 kd,.int .i64 dual,.int .i64 idle,.int .i64 rul,.func (.func K) #[] #[]] 200)
 have hL:LwB (w.alloc (.cells #[.int .i64 kd,.int .i64 dual,.int .i64 idle,.int .i64 rul,.func (.func K) #[] #[]] 200)) w.heap.size kd dual idle rul K:=heap_alloc_new w _
 have hr1:=own_below h b0
 have hne:(Value.slice av n cv).ownBlock≠some w.heap.size:=fun e=>by have:=(h.lt _ e).2;omega
 have g0:w.grownBy (w.alloc (.cells #[.int .i64 kd,.int .i64 dual,.int .i64 idle,.int .i64 rul,.func (.func K) #[] #[]] 200)) (Value.slice av n cv).ownBlock:=⟨b0.os,b0.tape,b0.output,b0.size,fun i hi _=>b0.block i hi⟩
 have hl1:Lie w0 (w.alloc (.cells #[.int .i64 kd,.int .i64 dual,.int .i64 idle,.int .i64 rul,.func (.func K) #[] #[]] 200)) s0 rs:=⟨hl.ok,hl.at h g0,hl.s⟩
 generalize hwe:w.alloc (.cells #[.int .i64 kd,.int .i64 dual,.int .i64 idle,.int .i64 rul,.func (.func K) #[] #[]] 200)=w1 at*
 have hkeepL: ∀w',w1.grownBy w' (Value.slice av n cv).ownBlock→LwB w' w.heap.size kd dual idle rul K:=fun w' g=>(g.block _ hL.lt (fun e=>hne e.symm)).trans hL
 have hsort:=hide (sort9_row (K:=210) (cb:=#[.pointer (some ⟨w.heap.size,0,none⟩)]) (ord:=fun x y=>ordS sg x.n.ps x.n.k y.n.ps y.n.k) hr1 hn hb (fun _ _=>by kernel_rfl) ((totS sg).on Mr.n) fun w' x y hx hy g=>stay1_any hK (hkeepL w' g) (NC.below (hl1.ok x hx).1 (hl1.at hr1 g)) (hl1.ok x hx).2 (NC.below (hl1.ok y hy).1 (hl1.at hr1 g)) (hl1.ok y hy).2)
 have hcomp:Hid (∀w2 ls,ls.Perm rs→w2.ownsRow s0 233 9 (.slice av n cv) n (flat9 ls)→w1.grownBy w2 (Value.slice av n cv).ownBlock→Calls Tryz.prog 213 #[.slice av n cv,.func (.func 214) #[] #[]] w2 fun e w'=> ∃v',e= .returned v'∧v'.ownBlock=(Value.slice av n cv).ownBlock∧w'.ownsRow s0 233 9 v' (dd qS ls).length (flat9 (dd qS ls))∧w2.grownBy w' (Value.slice av n cv).ownBlock):=hide fun w2 ls hp hr2 g2=>by
  have hl2:Lie w0 w2 s0 ls:=⟨fun m hm=>hl1.ok m (hp.mem_iff.1 hm),hl1.at hr1 g2,hl1.s⟩
  refine compact_row hr2 (by rw[hp.length_eq,hn]) hb (fun _ _=>by kernel_rfl) fun w' x y hx hy g=> ?_
  refine Calls.mono (stay2_g (NC.below (hl2.ok x hx).1 (hl2.at hr2 g)) (hl2.ok x hx).2 (NC.below (hl2.ok y hy).1 (hl2.at hr2 g)) (hl2.ok y hy).2 (Nat.le_refl _)) ?_
  rintro e w'' ⟨rfl,hg⟩
  exact⟨by rw[qS_of],hg.b⟩
 clear hl hl1 h hr1 hL hkeepL
 subst hwe
 replace g0:=hide g0
 simp only[lwV]
 go_enter Tryz.func185,Tryz.ntmps185
 go_wp2_with(go_at_call 209;refine hsort.out.mono ?_;rintro e w2 ⟨rfl,ls,p1,p2,p3,p4⟩)
 replace p1:=hide p1
 replace p2:=hide p2
 replace p4:=hide p4
 have hc2:=hide (hcomp.out w2 ls p1.out p3 p4.out)
 clear hsort hcomp p3 b0 hne
 go_wp2_with(go_at_call 213;refine hc2.out.mono ?_;rintro e w3 ⟨v',rfl,q1,q2,q3⟩)
 go_ret
 exact⟨v',ls,dd qS ls,rfl,p1.out,left9_dd (p2.out.imp fun{x y} e=>Int.not_lt.2 e),q2,q1,gbo g0.out (gbo p4.out q3)⟩

theorem clash1_any {i j:Int}{x y:NR}{n m:Nd}{F G:Nat→Prop}{sg:Int}{bl bo:Nat}{so:Bool}{ao:Option Addr}{lo co:Nat}(hK:LwK K sg)(hL:LwB w bl kd dual idle rul K)(hO:ZB w bo so ao lo co)(ho:Zn w so ao lo co 1)(hlo:lo≤1)(hx:NC F w x n 2097152)(hy:NC G w y m 2097152):
  Calls Tryz.prog 216 #[.agg (mE i x),.agg (mE j y),.pointer (some ⟨bl,0,none⟩),.pointer (some ⟨bo,0,none⟩)] w fun e w'=>e= .returned (.bool (decide (cmpI (sg*(n.k+m.k)) (sg*1)≤0)))∧Below w.heap.size w w':=by
 exact clash1 hK.ord hL hO ho hlo hx hy (Nat.le_refl _)
theorem clash_n {sg:Int}(hK:LwK K sg)(h:w.ownsRow s0 233 9 v n (flat9 rs))(hb:n≤1048000)(hl:Lie w0 w s0 rs):
  Calls Tryz.prog 186 #[.agg (lwV kd dual idle rul K),v] w fun e w'=> ∃b,e= .returned (.bool b)∧(b=true↔HP (fun x y=>ordL (lnP x.n.ps) (lnP y.n.ps)) (fun x y=>decide (cmpI (sg*(x.n.k+y.n.k)) (sg*1)≤0)) rs 0)∧Below w.heap.size w w':=by
 obtain⟨av,cv,rfl⟩:=row9_form h
 have hn:=flat9_inj h
 have b0:=below_alloc w (.cells #[.int .i64 kd,.int .i64 dual,.int .i64 idle,.int .i64 rul,.func (.func K) #[] #[]] 200)
 have hL:LwB (w.alloc (.cells #[.int .i64 kd,.int .i64 dual,.int .i64 idle,.int .i64 rul,.func (.func K) #[] #[]] 200)) w.heap.size kd dual idle rul K:=heap_alloc_new w _
 have hmain:Hid (∀w2 so ao lo co,Below w.heap.size w w2→LwB w2 w.heap.size kd dual idle rul K→Zn w2 so ao lo co 1→Calls Tryz.prog 215 #[.slice av n cv,.func (.func 211) #[] #[],.func (.func 216) #[] #[.pointer (some ⟨w.heap.size,0,none⟩),.pointer (some ⟨w2.heap.size,0,none⟩)]] (w2.alloc (.cells #[.bool so,.slice ao lo co] 26)) fun e w'=> ∃b,e= .returned (.bool b)∧(b=true↔HP (fun x y=>ordL (lnP x.n.ps) (lnP y.n.ps)) (fun x y=>decide (cmpI (sg*(x.n.k+y.n.k)) (sg*1)≤0)) rs 0)∧Below w.heap.size w w'):=hide fun w2 so ao lo co k2 hL2 hz=>by
  have b3:=below_alloc w2 (.cells #[.bool so,.slice ao lo co] 26)
  have hO:ZB (w2.alloc (.cells #[.bool so,.slice ao lo co] 26)) w2.heap.size so ao lo co:=heap_alloc_new w2 _
  have hlo:lo≤1:=by rw[zn_limb hz,lim_1];exact Nat.le_refl _
  have hz3:=hz.below b3
  have hL3:=hL2.below b3
  have k3:=grow_step b3 k2
  generalize w2.alloc (.cells #[.bool so,.slice ao lo co] 26)=w3 at*
  have hr3:=own_below h k3
  have hnc: ∀w' (x:Mr),x∈rs→Below w3.heap.size w3 w'→NC (fun _=>True) w' x.x x.n 2097152∧x.n.ps≠ []:=fun w' x hx k'=>⟨NC.below (hl.ok x hx).1 (grow_step (grow_step k' k3) hl.k),(hl.ok x hx).2⟩
  refine(hasPair_n (ord:=fun x y=>ordL (lnP x.n.ps) (lnP y.n.ps)) (mat:=fun x y=>decide (cmpI (sg*(x.n.k+y.n.k)) (sg*1)≤0)) hr3 hn hb (fun _ _=>by kernel_rfl) (fun _ _=>by kernel_rfl) (fun w' x y hx hy k'=> ?_) (fun w' x y hx hy k'=> ?_)).mono ?_
  ·obtain⟨n1,n2⟩:=hnc w' x hx k'
   obtain⟨n3,n4⟩:=hnc w' y hy k'
   have h1:=n1.hnp
   refine Calls.mono (lines_g n1.pn.pn n2 n3.pn.pn n4 o_m o_m) ?_
   rintro e w'' ⟨rfl,hg⟩
   exact⟨rfl,hg.b⟩
  ·obtain⟨n1,n2⟩:=hnc w' x hx k'
   obtain⟨n3,n4⟩:=hnc w' y hy k'
   exact clash1_any hK (hL3.below k') ((k'.block _ hO.lt).trans hO) (hz3.below k') hlo n1 n3
  rintro e w' ⟨b,rfl,q1,q2⟩
  exact⟨b,rfl,q1,grow_step q2 k3⟩
 simp only[lwV]
 go_enter Tryz.func186,Tryz.ntmps186
 go_wp2_with(go_at_call 22;refine Calls.mono (zof_n 1 (by decide) (by decide) _) ?_;rintro e w2 ⟨so,ao,lo,co,rfl,hz,k2,-⟩)
 have hc:=hide (hmain.out w2 so ao lo co (grow_step k2 b0) (hL.below k2) hz)
 clear hmain hz k2 hL b0 h hl
 go_wp2_with(go_at_call 215;refine hc.out.mono ?_;rintro e w3 ⟨b,rfl,q1,q2⟩)
 go_ret
 exact⟨b,rfl,q1,q2⟩
def OpR (w w':World)(e:Ending)(s0 n:Nat)(v:Value)(rs:List Mr):Prop:=
 ∃b ls,e= .returned (.bool b)∧ls.Perm rs∧ls.Pairwise (fun x y=> ¬ordD y.n x.n<0)∧(b=true↔HP (fun x y=>ordD x.n y.n) (fun x y=> !(x.n.kind==y.n.kind)) ls 0)∧w'.ownsRow s0 233 9 v n (flat9 ls)∧w.grownBy w' v.ownBlock
theorem opposed_n (h:w.ownsRow s0 233 9 v n (flat9 rs))(hb:n≤1048000)(hl:Lie w0 w s0 rs):
  Calls Tryz.prog 187 #[v] w fun e w'=>OpR w w' e s0 n v rs:=by
 obtain⟨av,cv,rfl⟩:=row9_form h
 have hn:=flat9_inj h
 have hsort:=hide (sort9_row (K:=217) (cb:=#[]) (ord:=fun x y=>ordD x.n y.n) h hn hb (fun _ _=>by kernel_rfl) (totD.on Mr.n) fun w' x y hx hy g=>divs_g (NC.below (hl.ok x hx).1 (hl.at h g)) (hl.ok x hx).2 (NC.below (hl.ok y hy).1 (hl.at h g)) (hl.ok y hy).2 (Nat.le_refl _))
 have hpair:Hid (∀w2 ls,ls.Perm rs→w2.ownsRow s0 233 9 (.slice av n cv) n (flat9 ls)→w.grownBy w2 (Value.slice av n cv).ownBlock→Calls Tryz.prog 215 #[.slice av n cv,.func (.func 217) #[] #[],.func (.func 218) #[] #[]] w2 fun e w'=> ∃b,e= .returned (.bool b)∧(b=true↔HP (fun x y=>ordD x.n y.n) (fun x y=> !(x.n.kind==y.n.kind)) ls 0)∧Below w2.heap.size w2 w'):=hide fun w2 ls hp hr2 g2=>by
  have hnc: ∀w' (x:Mr),x∈ls→Below w2.heap.size w2 w'→NC (fun _=>True) w' x.x x.n 2097152∧x.n.ps≠ []:=fun w' x hx k'=>by
   have hx':=hp.mem_iff.1 hx
   exact⟨NC.below (hl.ok x hx').1 (grow_step k' (hl.at h g2)),(hl.ok x hx').2⟩
  refine hasPair_n (ord:=fun x y=>ordD x.n y.n) (mat:=fun x y=> !(x.n.kind==y.n.kind)) hr2 (by rw[hp.length_eq,hn]) hb (fun _ _=>by kernel_rfl) (fun _ _=>by kernel_rfl) (fun w' x y hx hy k'=> ?_) (fun w' x y hx hy k'=> ?_)
  ·obtain⟨n1,n2⟩:=hnc w' x hx k'
   obtain⟨n3,n4⟩:=hnc w' y hy k'
   refine Calls.mono (divs_g n1 n2 n3 n4 (Nat.le_refl _)) ?_
   rintro e w'' ⟨rfl,hg⟩
   exact⟨rfl,hg.b⟩
  obtain⟨n1,n2⟩:=hnc w' x hx k'
  obtain⟨n3,n4⟩:=hnc w' y hy k'
  refine Calls.mono (kinds_g n1 n3) ?_
  rintro e w'' ⟨rfl,hg⟩
  exact⟨rfl,hg.b⟩
 clear hl h
 go_enter Tryz.func187,Tryz.ntmps187
 go_wp2_with(go_at_call 209;refine hsort.out.mono ?_;rintro e w2 ⟨rfl,ls,p1,p2,p3,p4⟩)
 replace p1:=hide p1
 replace p2:=hide p2
 replace p4:=hide p4
 have hc2:=hide (hpair.out w2 ls p1.out p3 p4.out)
 replace p3:=hide p3
 clear hsort hpair
 go_wp2_with(go_at_call 215;refine hc2.out.mono ?_;rintro e w3 ⟨b,rfl,q1,q2⟩)
 go_ret
 exact⟨b,ls,rfl,p1.out,p2.out.imp fun{x y} e=>Int.not_lt.2 e,q1,own_below p3.out q2,gb_below p4.out q2⟩
end Nt
namespace Nt

variable {w:World}{n:Nat}{v:Value}
theorem il_one {g:Nat}{z:Int}{t:TypeId}{f:Nat × Nat}(h:w.heap[g]? =some (.cells #[.int .i64 z] t f))(hz:I64 z):IL w (some ⟨g,0,none⟩) 1 [z]:=
 ⟨rfl,.inr ⟨g,0,rfl,lt_of_block h,fun i hi=>by
  have:i=0:=by simpa using hi
  subst this
  exact⟨cell_of_row w g 0 _ _ _ h,hz⟩⟩⟩
theorem own_form {base:Nat}{e:TypeId}{xs:List Value}(h:w.ownsRow base e 1 v n xs): ∃a c,v= .slice a n c:=by
 rcases Joins.ownsRow_forms h with⟨h1,h2⟩|⟨g1,cap1,h1⟩
 ·exact⟨none,0,by rw[h1,h2]⟩
 exact⟨_,cap1,h1⟩
theorem sortI_grown (w:World)(g q:Nat)(d:Array Int)(os:Array Obj):w.grownBy (grow (putRow (Value.int .i64) (Sort.ahead w q) g 0 d) os) (some g):=by
 refine⟨rfl,rfl,rfl,?_,fun k hk hne=> ?_⟩
 ·simp[grow,putRow,mapBlock,Sort.ahead]
 have hkg:k≠g:=fun e=>hne (by rw[e])
 simp only[grow,putRow,mapBlock,Sort.ahead]
 rw[Array.getElem?_append_left (by simpa using hk),Array.getElem?_modify,if_neg (fun e=>hkg e.symm)]
theorem sortI_row {base:Nat}{l:List Int}(h:w.ownsRow base 3 1 v n (l.map (Value.int .i64)))(hn:l.length=n)(hb:n≤4194304):
  Calls Tryz.prog 97 #[v] w fun e w'=>e= .returned (.tuple #[])∧∃l':List Int,l'.Perm l∧l'.Pairwise (·≤·)∧w'.ownsRow base 3 1 v n (l'.map (Value.int .i64))∧w.grownBy w' v.ownBlock:=by
 by_cases h0:n=0
 ·subst h0
  have e0:l= []:=List.eq_nil_of_length_eq_zero hn
  subst e0
  obtain⟨a,c,rfl⟩:=own_form h
  refine(Tryz.slices_Sort_int_none a c w).mono ?_
  rintro e w' ⟨rfl,rfl⟩
  exact⟨rfl,[],List.Perm.refl _,List.Pairwise.nil,h,⟨rfl,rfl,rfl,Nat.le_refl _,fun _ _ _=>rfl⟩⟩
 subst hn
 obtain⟨g,cap,rfl,hg1,hg2,hcap,hmax,-,hH⟩:=Lib.holds_of_ownsRow h (fun e=>h0 (by obtain⟨a,c,e2⟩:=own_form h;rw[e]at e2;injection e2 with _ e3 _;exact e3.symm))
 refine(Tryz.slices_Sort_int g 0 cap l w hH hg2 o_m).mono ?_
 rintro e w2 ⟨rfl,q,os,rfl⟩
 have hsl:(l.mergeSort fun x y=>decide (x≤y)).length=l.length:=List.length_mergeSort _
 have r2:=Lib.ownsRow_putRow (q:=q) h hsl (Nat.le_refl _)
 rw[List.take_of_length_le (Nat.le_of_eq hsl)]at r2
 have r3:=Lib.ownsRow_grow r2 0 os
 exact⟨rfl,_,List.mergeSort_perm _ _,sort_le l,r3,sortI_grown w g q _ os⟩
structure Nd1 (w wr:World) (ba:Nat) (v:Value) (l:List Int):Prop where
 b:SlB wr ba v
 r:wr.ownsRow (ba+1) 3 1 v l.length (l.map (Value.int .i64))
 ge:w.heap.size≤ba
 k:Below w.heap.size w wr
theorem needed_n {s0 K:Nat}{rs:List Mr}{kd dual idle rul:Int}(h:w.ownsRow s0 233 9 v n (flat9 rs))(hb:n≤1048000)(hl: ∀m∈rs,NC (fun _=>True) w m.x m.n 2097152∧I64 m.id):
  Calls Tryz.prog 188 #[.agg (lwV kd dual idle rul K),v] w fun e w'=> ∃a c all,e= .returned (.slice a ((rs.filter (ndd dual all)).map Mr.id).length c)∧IL w' a ((rs.filter (ndd dual all)).map Mr.id).length ((rs.filter (ndd dual all)).map Mr.id)∧(∀x,x∈all↔x∈rs.map Mr.id)∧Below w.heap.size w w':=by
 obtain⟨av,cv,rfl⟩:=row9_form h
 have hn:=flat9_inj h
 simp only[lwV]
 go_enter Tryz.func188,Tryz.ntmps188
 go_wp2_with fail
 have hL:Hid (LwB ((w.alloc (.cells #[.int .i64 kd,.int .i64 dual,.int .i64 idle,.int .i64 rul,.func (.func K) #[] #[]] 200)).alloc (.cells #[.slice none 0 0] 33)) w.heap.size kd dual idle rul K):=hide (LwB.below (heap_alloc_new w _) (below_alloc _ _))
 have hS0:Hid (Nd1 w ((w.alloc (.cells #[.int .i64 kd,.int .i64 dual,.int .i64 idle,.int .i64 rul,.func (.func K) #[] #[]] 200)).alloc (.cells #[.slice none 0 0] 33)) (w.heap.size+1) (.slice none 0 0) []):=hide ⟨by
  have h1:SlB ((w.alloc (.cells #[.int .i64 kd,.int .i64 dual,.int .i64 idle,.int .i64 rul,.func (.func K) #[] #[]] 200)).alloc (.cells #[.slice none 0 0] 33)) (w.alloc (.cells #[.int .i64 kd,.int .i64 dual,.int .i64 idle,.int .i64 rul,.func (.func K) #[] #[]] 200)).heap.size (.slice none 0 0):=heap_alloc_new _ _
  rw[show(w.alloc (.cells #[.int .i64 kd,.int .i64 dual,.int .i64 idle,.int .i64 rul,.func (.func K) #[] #[]] 200)).heap.size=w.heap.size+1 by simp]at h1
  exact h1,World.ownsRow_nil _ _ _ _,by omega,below_alloc' (below_alloc w _) _⟩
 generalize (w.alloc (.cells #[.int .i64 kd,.int .i64 dual,.int .i64 idle,.int .i64 rul,.func (.func K) #[] #[]] 200)).alloc (.cells #[.slice none 0 0] 33)=w2 at*
 go_loopw [14] (fun q wr=> ∃(t:Nat) (v:Value),t≤n∧q= .int .i64 t∧Hid (Nd1 w wr (w.heap.size+1) v ((rs.take t).map Mr.id))∧Hid (LwB wr w.heap.size kd dual idle rul K)) (fun q _=>n-(intOf q).toNat)
 case atStart=>exact⟨0,_,Nat.zero_le _,rfl,hide (by simpa using hS0.out),hL⟩
 case round=>
  obtain⟨t,v,ht,rfl,hN,hL1⟩:=hrel
  clear hL hS0
  by_cases htn:t<n
  ·obtain⟨g,cap,hsl,hgl,hcell⟩:=row9_cell (own_below h hN.out.k) hn htn
   injection hsl with ea eb ec
   subst ea ec
   clear eb
   have hid:I64 (rs[t]'o_m).id:=(hl _ (List.getElem_mem _)).2
   have htk:Hid ((rs.take (t+1)).map Mr.id=(rs.take t).map Mr.id++ [(rs[t]'o_m).id]):=hide (by rw[List.take_succ_eq_append_getElem o_m,List.map_append];rfl)
   have e0:=hcell 0 (by decide)
   have e1:=hcell 1 (by decide)
   have e2:=hcell 2 (by decide)
   have e3:=hcell 3 (by decide)
   have e4:=hcell 4 (by decide)
   have e5:=hcell 5 (by decide)
   have e6:=hcell 6 (by decide)
   have e7:=hcell 7 (by decide)
   have e8:=hcell 8 (by decide)
   clear hcell
   generalize rs[t]'o_m=m at*
   obtain⟨i,⟨kd0,sd0,ad0,ld0,cd0,ap0,np0,cp0,sk0,ak0,lk0,ck0,vr0,ka0,kn0,kc0⟩,nd⟩:=m
   dsimp only at hid htk
   simp only[Mr.enc,mE,Nat.add_zero,List.getElem?_cons_zero,List.getElem?_cons_succ]at e0 e1 e2 e3 e4 e5 e6 e7 e8
   have hlen:((rs.take t).map Mr.id).length=t:=by rw[List.length_map,List.length_take];omega
   have hr:=hN.out.r
   rw[hlen]at hr
   obtain⟨a1,c1,rfl⟩:=own_form hr
   have ub:=hN.out.b.c0
   have hbl:=hN.out.b.lt
   have hge:=hN.out.ge
   have hks:=hN.out.k.size
   have b1:=below_alloc' (below_alloc wr (.cells #[.int .i64 i,.int .i64 kd0,.bool sd0,.slice ad0 ld0 cd0,.slice ap0 np0 cp0,.bool sk0,.slice ak0 lk0 ck0,.int .i64 vr0,.slice ka0 kn0 kc0] 233)) (.cells #[.int .i64 i] 3)
   have hI:Hid (IL ((wr.alloc (.cells #[.int .i64 i,.int .i64 kd0,.bool sd0,.slice ad0 ld0 cd0,.slice ap0 np0 cp0,.bool sk0,.slice ak0 lk0 ck0,.int .i64 vr0,.slice ka0 kn0 kc0] 233)).alloc (.cells #[.int .i64 i] 3)) (some ⟨wr.heap.size+1,0,none⟩) 1 [i]):=hide (by
    have h1:=heap_alloc_new (wr.alloc (.cells #[.int .i64 i,.int .i64 kd0,.bool sd0,.slice ad0 ld0 cd0,.slice ap0 np0 cp0,.bool sk0,.slice ak0 lk0 ck0,.int .i64 vr0,.slice ka0 kn0 kc0] 233)) (.cells #[.int .i64 i] 3)
    rw[show(wr.alloc (.cells #[.int .i64 i,.int .i64 kd0,.bool sd0,.slice ad0 ld0 cd0,.slice ap0 np0 cp0,.bool sk0,.slice ak0 lk0 ck0,.int .i64 vr0,.slice ka0 kn0 kc0] 233)).heap.size=wr.heap.size+1 by simp]at h1
    exact il_one h1 hid)
   have hown:=hide (own_below hr b1)
   have hstep:Hid (∀v' w',World.ownsRow w' (w.heap.size+1+1) 3 1 v' (t+1) (((rs.take t).map Mr.id++ [i]).map (Value.int .i64))→World.grownBy ((wr.alloc (.cells #[.int .i64 i,.int .i64 kd0,.bool sd0,.slice ad0 ld0 cd0,.slice ap0 np0 cp0,.bool sk0,.slice ak0 lk0 ck0,.int .i64 vr0,.slice ka0 kn0 kc0] 233)).alloc (.cells #[.int .i64 i] 3)) w' (Value.slice a1 t c1).ownBlock→
     SlB w' (w.heap.size+1) (.slice a1 t c1)∧Nd1 w (w'.setCell ⟨w.heap.size+1,0,none⟩ v') (w.heap.size+1) v' ((rs.take (t+1)).map Mr.id)∧LwB (w'.setCell ⟨w.heap.size+1,0,none⟩ v') w.heap.size kd dual idle rul K):=hide fun v' w' ho hg=>by
    have hS1:=hN.out.b.below b1
    have hL2:=hL1.out.below b1
    have hk2:=grow_step b1 hN.out.k
    have hs2:=b1.size
    have hne: ∀b,b≤w.heap.size+1→some b≠(Value.slice a1 t c1).ownBlock:=fun b hb e=>by have:=(hr.lt b e.symm).1;omega
    generalize (wr.alloc (.cells #[.int .i64 i,.int .i64 kd0,.bool sd0,.slice ad0 ld0 cd0,.slice ap0 np0 cp0,.bool sk0,.slice ak0 lk0 ck0,.int .i64 vr0,.slice ka0 kn0 kc0] 233)).alloc (.cells #[.int .i64 i] 3)=wb at*
    have hS2:SlB w' (w.heap.size+1) (.slice a1 t c1):=(hg.block _ hS1.lt (hne _ (Nat.le_refl _))).trans hS1
    have hL3:LwB w' w.heap.size kd dual idle rul K:=(hg.block _ hL2.lt (hne _ o_m)).trans hL2
    have hk3:Below w.heap.size w w':=hk2.grown hg hk2.size fun b hb=>by have:=(hown.out.lt b hb).1;omega
    have hv'ne:v'.ownBlock≠some (w.heap.size+1):=fun e=>by have:=(ho.lt _ e).1;omega
    refine⟨hS2,⟨heap_setCell_same _ _ _ _ _ _ hS2,?_,by omega,hk3.setCell (by show w.heap.size≤w.heap.size+1;omega) _⟩,?_⟩
    ·rw[htk.out,List.length_append,hlen]
     exact ho.kept (gb_set _ _ _ _) (.inr hv'ne)
    exact((gb_set w' (w.heap.size+1) 0 v').block _ hL3.lt (by simp)).trans hL3
   clear hr hN hL1 hlen hid
   go_wp2_with(at_builtin;refine app_ii rfl _ _ rfl (w.heap.size+1+1) _ _ _ rfl hown.out (some ⟨wr.heap.size+1,0,none⟩) 1 1 [i] rfl (by decide) hI.out o_m (by have:=b1.size;omega) ?_;intro v' w' ho hg _;obtain⟨a2,c2,rfl⟩:=own_form ho;have s1:=hstep.out _ _ ho hg;have us:=s1.1.c0;have uf:=frozen_of_row w' (w.heap.size+1) 0 _ _ s1.1;replace s1:=hide s1.2;clear hstep ho hg hown hI)
   exact⟨⟨t+1,_,by omega,by go_num,hide s1.out.1,hide s1.out.2⟩,by simp[intOf];omega⟩
  obtain rfl:t=n:=by omega
  have hN1:=hN.out
  rw[List.take_of_length_le (Nat.le_of_eq hn)]at hN1
  have hr:=hN1.r
  rw[List.length_map,hn]at hr
  obtain⟨a1,c1,rfl⟩:=own_form hr
  have hne: ∀b,b≤w.heap.size+1→some b≠(Value.slice a1 t c1).ownBlock:=fun b hb e=>by have:=(hr.lt b e.symm).1;omega
  have hsort:=hide (sortI_row hr (by rw[List.length_map,hn]) o_m)
  have hafter:Hid (∀w3 (l':List Int),l'.Perm (rs.map Mr.id)→w3.ownsRow (w.heap.size+1+1) 3 1 (.slice a1 t c1) t (l'.map (Value.int .i64))→wr.grownBy w3 (Value.slice a1 t c1).ownBlock→SlB w3 (w.heap.size+1) (.slice a1 t c1)∧LwB w3 w.heap.size kd dual idle rul K∧Below w.heap.size w w3∧IL w3 a1 t l'):=hide fun w3 l' hp hr3 hg=>by
   refine⟨(hg.block _ hN1.b.lt (hne _ (Nat.le_refl _))).trans hN1.b,(hg.block _ hL1.out.lt (hne _ o_m)).trans hL1.out,hN1.k.grown hg hN1.k.size fun b hb=>by have:=(hr.lt b hb).1;omega,?_⟩
   obtain⟨a,c,e,h1,_⟩:=row_il hr3 fun x hx=>by
    obtain⟨m,hm,rfl⟩:=List.mem_map.1 (hp.mem_iff.1 hx)
    exact(hl m hm).2
   cases e
   exact h1
  have ub:=hN1.b.c0
  clear hN hL1 hN1 hr hne
  go_wp2_with(go_at_call 97;refine hsort.out.mono ?_;rintro e w3 ⟨rfl,all,p1,p2,p3,p4⟩;have s1:=hide (hafter.out w3 all p1 p3 p4);replace p1:=hide p1;replace p2:=hide p2;clear hsort hafter p3 p4 ub)
  have hall:Hid (∀x,x∈all↔x∈rs.map Mr.id):=hide fun x=>p1.out.mem_iff
  have hlen:=p1.out.length_eq
  rw[List.length_map,hn]at hlen
  have hr9:=hide (own_below h s1.out.2.2.1)
  have hl9:Hid (∀m∈rs,NC (fun _=>True) w3 m.x m.n 2097152∧I64 m.id):=hide fun m hm=>⟨NC.below (hl m hm).1 s1.out.2.2.1,(hl m hm).2⟩
  clear h hl p1
  go_loopw [6,29] (fun v2 q wr=> ∃(s:Nat),s≤t∧q= .int .i64 s∧Hid (wr.ownsRow w3.heap.size 3 1 v2 (((rs.take s).filter (ndd dual all)).map Mr.id).length ((((rs.take s).filter (ndd dual all)).map Mr.id).map (Value.int .i64)))∧Hid (Below w3.heap.size w3 wr)) (fun _ q _=>t-(intOf q).toNat)
  case atStart=>exact⟨0,Nat.zero_le _,rfl,hide (World.ownsRow_nil _ _ _ _),hide (Below.refl _ _)⟩
  case round=>
   obtain⟨s,hs,rfl,hO,kr⟩:=hrel
   by_cases hst:s<t
   ·obtain⟨g,cap,hsl,hgl,hcell⟩:=row9_cell (own_below hr9.out kr.out) hn hst
    injection hsl with ea eb ec
    subst ea ec
    clear eb
    have hmm:(rs[s]'o_m)∈rs:=List.getElem_mem _
    have hid:=hl9.out _ hmm
    have htk:Hid ((rs.take (s+1)).filter (ndd dual all)=(rs.take s).filter (ndd dual all)++ [rs[s]'o_m].filter (ndd dual all)):=hide (by rw[List.take_succ_eq_append_getElem o_m,List.filter_append])
    have e0:=hcell 0 (by decide)
    have e1:=hcell 1 (by decide)
    have e2:=hcell 2 (by decide)
    have e3:=hcell 3 (by decide)
    have e4:=hcell 4 (by decide)
    have e5:=hcell 5 (by decide)
    have e6:=hcell 6 (by decide)
    have e7:=hcell 7 (by decide)
    have e8:=hcell 8 (by decide)
    clear hcell hmm
    generalize rs[s]'o_m=m at*
    have hkn:=hid.1.kd
    have hki:=hid.1.kids
    have hkl:=hid.1.hkn
    replace hid:=hid.2
    obtain⟨i,⟨kd0,sd0,ad0,ld0,cd0,ap0,np0,cp0,sk0,ak0,lk0,ck0,vr0,ka0,kn0,kc0⟩,nd⟩:=m
    dsimp only at hid hkn hki hkl
    obtain rfl:kn0=nd.kids.length:=hki.1.symm
    simp only[Mr.enc,mE,Nat.add_zero,List.getElem?_cons_zero,List.getElem?_cons_succ]at e0 e1 e2 e3 e4 e5 e6 e7 e8
    have hlen2:(((rs.take s).filter (ndd dual all)).map Mr.id).length≤s:=by
     rw[List.length_map]
     exact Nat.le_trans (List.length_filter_le _ _) (by rw[List.length_take];omega)
    obtain⟨a4,c4,rfl⟩:=own_form hO.out
    have b1:=below_alloc wr (.cells #[.int .i64 i,.int .i64 kd0,.bool sd0,.slice ad0 ld0 cd0,.slice ap0 np0 cp0,.bool sk0,.slice ak0 lk0 ck0,.int .i64 vr0,.slice ka0 nd.kids.length kc0] 233)
    have hL2:=s1.out.2.1.below (grow_step b1 kr.out)
    have ul:=(s1.out.2.1.below kr.out).c1
    have hll:=(s1.out.2.1.below kr.out).lt
    have hcont:=hide (containsF_n (K:=219) (cb:=#[.pointer (some ⟨w.heap.size+1,0,none⟩)]) (kc:=kc0) (q:=fun z=>decide (z∈all)) (hki.below (grow_step b1 kr.out)) o_m (fun _ _=>by kernel_rfl) fun w' z _ k'=>by
     have kk:=grow_step k' (grow_step b1 kr.out)
     have h1:=s1.out.1.below kk
     have h2:=s1.out.2.2.2.below kk
     rw[←hlen]at h1 h2
     exact isThere_n h1 h2 p2.out o_m)
    have hstep:Hid (∀wm,Below wr.heap.size wr wm→ndd dual all ⟨i,⟨kd0,sd0,ad0,ld0,cd0,ap0,np0,cp0,sk0,ak0,lk0,ck0,vr0,ka0,nd.kids.length,kc0⟩,nd⟩=true→∀v' w',World.ownsRow w' w3.heap.size 3 1 v' ((((rs.take s).filter (ndd dual all)).map Mr.id).length+1) ((((rs.take s).filter (ndd dual all)).map Mr.id++ [i]).map (Value.int .i64))→World.grownBy wm w' (Value.slice a4 (((rs.take s).filter (ndd dual all)).map Mr.id).length c4).ownBlock→World.ownsRow w' w3.heap.size 3 1 v' (((rs.take (s+1)).filter (ndd dual all)).map Mr.id).length ((((rs.take (s+1)).filter (ndd dual all)).map Mr.id).map (Value.int .i64))∧Below w3.heap.size w3 w'):=hide fun wm km hq v' w' ho hg=>by
     have e:((rs.take (s+1)).filter (ndd dual all)).map Mr.id=((rs.take s).filter (ndd dual all)).map Mr.id++ [i]:=by
      rw[htk.out,List.filter_cons_of_pos hq,List.filter_nil,List.map_append]
      rfl
     rw[e]
     refine⟨by rw[List.length_append];exact ho,?_⟩
     have k2:=grow_step km kr.out
     exact k2.grown hg k2.size fun b hb=>(hO.out.lt b hb).1
    have hskip:Hid (∀wm,Below wr.heap.size wr wm→ndd dual all ⟨i,⟨kd0,sd0,ad0,ld0,cd0,ap0,np0,cp0,sk0,ak0,lk0,ck0,vr0,ka0,nd.kids.length,kc0⟩,nd⟩=false→World.ownsRow wm w3.heap.size 3 1 (.slice a4 (((rs.take s).filter (ndd dual all)).map Mr.id).length c4) (((rs.take (s+1)).filter (ndd dual all)).map Mr.id).length ((((rs.take (s+1)).filter (ndd dual all)).map Mr.id).map (Value.int .i64))∧Below w3.heap.size w3 wm):=hide fun wm km hq=>by
     rw[htk.out,List.filter_cons_of_neg (by rw[hq];simp),List.filter_nil,List.append_nil]
     exact⟨own_below hO.out km,grow_step km kr.out⟩
    have hks:=kr.out.size
    clear htk hr9 hl9 s1 p2 hall
    subst hkn
    generalize ((rs.take s).filter (ndd dual all)).map Mr.id=fl at*
    have hfz:Hid (∀wm,Below wr.heap.size wr wm→IL (wm.alloc (.cells #[.int .i64 i] 3)) (some ⟨wm.heap.size,0,none⟩) 1 [i]∧Below wr.heap.size wr (wm.alloc (.cells #[.int .i64 i] 3))∧World.ownsRow (wm.alloc (.cells #[.int .i64 i] 3)) w3.heap.size 3 1 (.slice a4 fl.length c4) fl.length (fl.map (Value.int .i64))):=hide fun wm km=>⟨il_one (heap_alloc_new wm _) hid,below_alloc' km _,own_below hO.out (below_alloc' km _)⟩
    have ewm:(wr.alloc (.cells #[.int .i64 i,.int .i64 nd.kind,.bool sd0,.slice ad0 ld0 cd0,.slice ap0 np0 cp0,.bool sk0,.slice ak0 lk0 ck0,.int .i64 vr0,.slice ka0 nd.kids.length kc0] 233)).heap.size=wr.heap.size+1:=by simp
    have hM:Hid (∀w5,Below (wr.alloc (.cells #[.int .i64 i,.int .i64 nd.kind,.bool sd0,.slice ad0 ld0 cd0,.slice ap0 np0 cp0,.bool sk0,.slice ak0 lk0 ck0,.int .i64 vr0,.slice ka0 nd.kids.length kc0] 233)).heap.size (wr.alloc (.cells #[.int .i64 i,.int .i64 nd.kind,.bool sd0,.slice ad0 ld0 cd0,.slice ap0 np0 cp0,.bool sk0,.slice ak0 lk0 ck0,.int .i64 vr0,.slice ka0 nd.kids.length kc0] 233)) w5→w5.cell? ⟨wr.heap.size,0,none⟩=some (.int .i64 i)∧Below wr.heap.size wr w5):=hide fun w5 k5=>⟨(M9B.below (show M9B (wr.alloc (.cells #[.int .i64 i,.int .i64 nd.kind,.bool sd0,.slice ad0 ld0 cd0,.slice ap0 np0 cp0,.bool sk0,.slice ak0 lk0 ck0,.int .i64 vr0,.slice ka0 nd.kids.length kc0] 233)) wr.heap.size i ⟨nd.kind,sd0,ad0,ld0,cd0,ap0,np0,cp0,sk0,ak0,lk0,ck0,vr0,ka0,nd.kids.length,kc0⟩ from heap_alloc_new wr _) k5).c 0,grow_step k5 b1⟩
    clear hO kr hki hid
    by_cases hkd:nd.kind=dual
    ·subst hkd
     cases hany:nd.kids.any fun z=>decide (z∈all)with
     |true=>
      have hnd:Hid (ndd nd.kind all ⟨i,⟨nd.kind,sd0,ad0,ld0,cd0,ap0,np0,cp0,sk0,ak0,lk0,ck0,vr0,ka0,nd.kids.length,kc0⟩,nd⟩=false):=hide (by unfold ndd;rw[hany];simp)
      rw[hany]at hcont
      clear hfz hstep b1 hany hkl
      go_wp2_with(go_at_call 68;refine hcont.out.mono ?_;rintro e w5 ⟨rfl,k5⟩;have s5:=hide (hskip.out w5 (hM.out w5 k5).2 hnd.out);clear hcont hskip hM k5)
      exact⟨⟨s+1,by omega,by go_num,hide s5.out.1,hide s5.out.2⟩,by simp[intOf];omega⟩
     |false=>
      have hnd:Hid (ndd nd.kind all ⟨i,⟨nd.kind,sd0,ad0,ld0,cd0,ap0,np0,cp0,sk0,ak0,lk0,ck0,vr0,ka0,nd.kids.length,kc0⟩,nd⟩=true):=hide (by unfold ndd;rw[hany];simp)
      rw[hany]at hcont
      clear hskip b1 hany hkl
      go_wp2_with(first|(go_at_call 68;refine hcont.out.mono ?_;rintro e w5 ⟨rfl,k5⟩;have h6:=hM.out w5 k5;have um:=h6.1;have h9:=hfz.out w5 h6.2;have hI:=hide h9.1;have bb:=hide h9.2.1;have hown:=hide h9.2.2;have hsm:=h6.2.size;clear hcont hfz hM k5 h6 h9)|(at_builtin;refine app_ii rfl _ _ rfl w3.heap.size _ _ _ rfl hown.out (some ⟨w5.heap.size,0,none⟩) 1 1 [i] rfl (by decide) hI.out (by omega) (by have:=bb.out.size;omega) ?_;intro v' w' ho hg _;obtain⟨a2,c2,rfl⟩:=own_form ho;have s5:=hide (hstep.out _ bb.out hnd.out _ _ ho hg);clear hstep ho hg hown hI))
      exact⟨⟨s+1,by omega,by go_num,hide s5.out.1,hide s5.out.2⟩,by simp[intOf];omega⟩
    have h9:=hfz.out _ b1
    rw[ewm]at h9
    have hI:=hide h9.1
    have bb:=hide h9.2.1
    have hown:=hide h9.2.2
    have hnd:Hid (ndd dual all ⟨i,⟨nd.kind,sd0,ad0,ld0,cd0,ap0,np0,cp0,sk0,ak0,lk0,ck0,vr0,ka0,nd.kids.length,kc0⟩,nd⟩=true):=hide (by unfold ndd;simp[hkd])
    clear hcont hfz h9 hskip b1 ewm hM
    go_wp2_with(at_builtin;refine app_ii rfl _ _ rfl w3.heap.size _ _ _ rfl hown.out (some ⟨wr.heap.size+1,0,none⟩) 1 1 [i] rfl (by decide) hI.out o_m (by have:=bb.out.size;omega) ?_;intro v' w' ho hg _;obtain⟨a2,c2,rfl⟩:=own_form ho;have s5:=hide (hstep.out _ bb.out hnd.out _ _ ho hg);clear hstep ho hg hown hI)
    exact⟨⟨s+1,by omega,by go_num,hide s5.out.1,hide s5.out.2⟩,by simp[intOf];omega⟩
   obtain rfl:s=t:=by omega
   obtain⟨a4,c4,e4,hI4,-⟩:=row_il hO.out fun x hx=>by
    obtain⟨m,hm,rfl⟩:=List.mem_map.1 hx
    exact(hl9.out m (List.mem_of_mem_take (List.mem_filter.1 hm).1)).2
   rw[List.take_of_length_le (Nat.le_of_eq hn)]at e4 hI4
   subst e4
   have kf:=hide (grow_step kr.out s1.out.2.2.1)
   replace hI4:=hide hI4
   clear hO hr9 hl9
   go_wp2_with fail
   go_ret
   exact⟨a4,c4,all,rfl,hI4.out,hall.out,kf.out⟩
end Nt
namespace Nt

theorem pot_le {L:List Nd}{M:Nat}(Sn:List Int): ∀n:Nat,(∀i:Nat,i<n→(ndI L (i:Int)).kids.length≤M)→pot L Sn n≤n*(1+M)
 |0,_=>by simp[pot]
 |n+1,h=>by
  have h1:=pot_le Sn n fun i hi=>h i o_m
  have h2:=h n o_m
  unfold pot
  rw[Nat.add_mul,Nat.one_mul]
  split <;> omega
theorem pot_none (n:Nat):pot [] [] n=n:=by
 induction n with
 |zero=>rfl
 |succ n ih=>
  unfold pot
  rw[ih]
  simp[ndI,cst]
theorem pot_one (Sn:List Int)(x:Int)(h0:0≤x)(hx:x∉Sn)(n:Nat)(hn:x<(n:Int)):pot [] Sn n=pot [] (x::Sn) n+1:=by
 have h:=pot_add [] Sn x h0 hx n hn
 have e:(ndI [] x).kids.length=0:=by simp[ndI,cst]
 rw[e]at h
 exact h
theorem own_mono {w:World}{base base':Nat}{e:TypeId}{size:Nat}{v:Value}{n:Nat}{xs:List Value}(h:w.ownsRow base e size v n xs)(hb:base'≤base):w.ownsRow base' e size v n xs:=
 ⟨h.1,h.2.imp id fun⟨g,cap,cur,h1,h2,h3⟩=>⟨g,cap,cur,h1,Nat.le_trans hb h2,h3⟩⟩
def SpP (w w':World)(e:Ending)(L:List Nd)(kd idle:Int)(ids:List Int):Prop:=
 Below w.heap.size w w'∧(((∃x∈ids,¬okI L x)∧e= .returned (.tuple #[.slice none 0 0,.int .i64 80]))∨
  ((∀x∈ids,okI L x)∧∃v rs,e= .returned (.tuple #[v,.int .i64 0])∧w'.ownsRow w.heap.size 233 9 v rs.length (flat9 rs)∧Mb9 L (Mem L kd idle ids) rs∧rs.length≤L.length∧∀m∈rs,NC (fun _=>True) w' m.x m.n 2097152))
theorem NC.any {F:Nat→Prop}{w:World}{x:NR}{n:Nd}{B:Nat}(h:NC F w x n B):NC (fun _=>True) w x n B:=h.move (Nat.le_refl _) (fun _ _ _=>rfl) fun _ _ _=>trivial
theorem spread_n {w:World}{pa pm:Nat}{nn kk:Int}{s:St}{F:Nat→Prop}{kd dual idle rul:Int}{K kc:Nat}{ka:Option Addr}{ids:List Int}(hkd2:kd=5∨kd=6)(hG:AG w pa pm nn kk s F)(hV:Gv kk s.L)(h0:0≤kk)(hkk:kk≤2097152)(hI:IL w ka ids.length ids)(hil:ids.length≤100000):
  Calls Tryz.prog 181 #[.agg (lwV kd dual idle rul K),.pointer (some ⟨pa,0,none⟩),.slice ka ids.length kc] w fun e w'=>SpP w w' e s.L kd idle ids:=by
 have hll:s.L.length≤2002:=by have h1:=hG.ln;have h2:=hG.cn;have h3:=hG.n2;omega
 have b1:=below_alloc w (.cells #[.int .i64 kd,.int .i64 dual,.int .i64 idle,.int .i64 rul,.func (.func K) #[] #[]] 200)
 have hL:LwB (w.alloc (.cells #[.int .i64 kd,.int .i64 dual,.int .i64 idle,.int .i64 rul,.func (.func K) #[] #[]] 200)) w.heap.size kd dual idle rul K:=heap_alloc_new w _
 have hG1:=hG.below b1
 have hI1:=hI.below b1
 have hmk:=run_makeMap (P:=Tryz.prog) 258 (w.alloc (.cells #[.int .i64 kd,.int .i64 dual,.int .i64 idle,.int .i64 rul,.func (.func K) #[] #[]] 200))
 have hs1:(w.alloc (.cells #[.int .i64 kd,.int .i64 dual,.int .i64 idle,.int .i64 rul,.func (.func K) #[] #[]] 200)).heap.size=w.heap.size+1:=by simp
 simp only[lwV]
 go_enter Tryz.func181,Tryz.ntmps181
 go_wp2_with fail
 clear hmk hG hI
 generalize w.alloc (.cells #[.int .i64 kd,.int .i64 dual,.int .i64 idle,.int .i64 rul,.func (.func K) #[] #[]] 200)=w1 at*
 have b2:=below_alloc w1 (.map #[] 0)
 have hmp:(w1.alloc (.map #[] 0)).ownsMap Tryz.prog 3 unitElem (w.heap.size+1) 0 (.map []:DataW Value):=hs1▸World.ownsMap_made w1 _ _ _
 have hI2:=hI1.below b2
 have hs2:(w1.alloc (.map #[] 0)).heap.size=w1.heap.size+1:=by simp
 generalize w1.alloc (.map #[] 0)=w2 at*
 by_cases hid0:ids= []
 ·subst hid0
  refine(cloneI_n (kn:=0) hI2 (by simp)).mono ?_
  rintro e w3 ⟨a,c,rfl,-,-,k3⟩
  have kf:=hide (grow_step k3 (grow_step b2 b1))
  clear hI1 hI2 hmp hL hG1 b1 b2 k3
  go_wp2_with fail
  go_loopw [8,10] (fun mv lv wr=>mv= .slice none 0 0∧lv= .slice a 0 c∧Hid (Below w.heap.size w wr)) (fun _ _ _=>0)
  case atStart=>exact⟨rfl,rfl,kf⟩
  case round=>
   obtain⟨rfl,rfl,kr⟩:=hrel
   go_wp2_with fail
   refine bodyPost_ret (results_tmp2 rfl _ _ _) rfl ?_
   refine⟨kr.out,.inr ⟨fun x hx=>absurd hx List.not_mem_nil,.slice none 0 0,[],rfl,World.ownsRow_nil _ _ _ _,⟨fun m hm=>absurd hm List.not_mem_nil,fun x=>⟨fun hx=> ?_,fun⟨m,hm,_⟩=>absurd hm List.not_mem_nil⟩,fun x hx=>hx.2.1⟩,Nat.zero_le _,fun m hm=>absurd hm List.not_mem_nil⟩⟩
   exact absurd (hx.1 (fun _=>False) (fun y hy=>absurd hy List.not_mem_nil) fun _ _ h _ _ _=>h) id
 have hl0:=List.length_pos_iff.2 hid0
 rcases hI2.2 with h2|⟨b,off,rfl,hb,h2⟩
 ·omega
 have hI64: ∀x∈ids,I64 x:=fun x hx=>by
  obtain⟨i,hi,rfl⟩:=List.getElem_of_mem hx
  exact(h2 i hi).2
 refine(Tryz.slices_Clone_int b off ids.length kc ids w2 (Nat.le_refl _) o_m (fun j hj=> ?_)).mono ?_
 ·rw[(h2 j hj).1,List.getD_eq_getElem?_getD,List.getElem?_eq_getElem hj]
  rfl
 rintro e w3 ⟨lv0,rfl,hown,-,k3⟩
 rw[List.take_of_length_le (Nat.le_refl _)]at hown
 obtain⟨a0,c0,rfl⟩: ∃a c,lv0= .slice a ids.length c:=by
  rcases Joins.ownsRow_forms hown with⟨h1,h2⟩|⟨g1,cap1,h1⟩
  ·omega
  exact⟨_,cap1,h1⟩
 have hS0:Hid (SpM w1 w3 s.L (w.heap.size+1) (.slice none 0 0) (.slice a0 ids.length c0) [] [] ids (fun _=>False) (.map [])):=hide
  {
   nd:=fun m hm=>absurd hm List.not_mem_nil
   mr:=World.ownsRow_nil _ _ _ _
   lr:=own_mono hown o_m
   mp:=hmp.kept (gb_none k3) (by simp)
   md:=fun x _=>by simp[Maps.has]
   ap:=fun b hb=>by cases hb
   cb:=fun b hb=>hb.elim
   mb:=fun e=>by cases e
   lb:=fun e=>by have:=(hown.lt _ e).1;omega
   bl:=by omega
   bs:=by have:=k3.size;omega
   k:=grow_step k3 b2
   li:=hI64}
 have hpl:pot s.L [] s.L.length≤4010006:=by
  refine Nat.le_trans (pot_le (M:=2002) [] s.L.length fun i hi=> ?_) ?_
  ·have hk:=(hV.kids (i:=(i:Int)) ⟨by omega,by omega⟩).1
   omega
  exact Nat.le_trans (Nat.mul_le_mul_right 2003 hll) (by decide)
 have hLk:Hid (∀wr,Below w1.heap.size w1 wr→LwB wr w.heap.size kd dual idle rul K∧AG wr pa pm nn kk s F∧Below w.heap.size w wr):=hide fun wr k=>⟨hL.below k,hG1.below k,grow_step k b1⟩
 clear hI1 hI2 hmp hL hG1 b1 b2 k3 hown h2 hI64
 go_wp2_with fail
 go_loopg [8,10] (ids.length+pot s.L [] s.L.length) (fun gk mv lv wr=> ∃(rs:List Mr) (Sn Lf:List Int) (C:Nat→Prop) (D:DataW Value),Hid (SpM w1 wr s.L (w.heap.size+1) mv lv rs Sn Lf C D)∧Hid (Spr s.L kd idle ids (rs.map Mr.id) Sn Lf)∧Hid (gk=Lf.length+pot s.L Sn s.L.length∧gk≤4110006∧rs.length≤Sn.length∧Sn.length+pot [] Sn s.L.length≤s.L.length))
 case atStart=>exact⟨[],[],ids,_,_,hS0,hide (spr_0 _ _ _ _),hide ⟨rfl,by omega,Nat.le_refl _,by rw[pot_none];simp⟩⟩
 case round=>
  obtain⟨rs,Sn,Lf,C,D,hM,hP,hgk⟩:=hrel
  clear hS0
  rcases List.eq_nil_or_concat Lf with rfl|⟨Lf,x,rfl⟩
  ·obtain⟨a4,c4,rfl⟩: ∃a c,u10= .slice a 0 c:=own_form (n:=0) hM.out.lr
   obtain⟨a5,c5,rfl⟩:=row9_form hM.out.mr
   have hfin:Hid (SpP w wr (.returned (.tuple #[.slice a5 rs.length c5,.int .i64 0])) s.L kd idle ids):=hide (by
    have hd:=hP.out.done
    have h5:=hgk.out.2.2.1
    have h6:=hgk.out.2.2.2
    refine⟨(hLk.out wr hM.out.k).2.2,.inr ⟨hd.1,_,rs,rfl,own_mono hM.out.mr o_m,⟨fun m hm=>(hM.out.nd m hm).1,fun y=> ?_,fun y hy=>hy.2.1⟩,by omega,fun m hm=>NC.any (hM.out.nd m hm).2⟩⟩
    rw[←hd.2.2 y,List.mem_map])
   clear hM hP hgk hLk
   go_wp2_with fail
   refine bodyPost_ret (results_tmp2 rfl _ _ _) rfl ?_
   exact hfin.out
  rw[List.concat_eq_append]at hM hP hgk
  obtain⟨g,cap,rfl,hgl,hcx,hx64,hcap,hM2⟩:=hM.out.pop
  replace hM2:=hide hM2
  have hgk2:=hgk.out
  rw[List.length_append,List.length_singleton]at hgk2
  have hz0: ∀w:World,(zeroValue 105).run Tryz.prog w= .ok (.agg #[]) w:=fun w=>by kernel_rfl
  have hky:=keyOf_i hx64
  obtain⟨a5,c5,rfl⟩:=row9_form hM2.out.mr
  have hmd:=hM2.out.md x hx64
  have hmp:=hM2.out.mp
  generalize hq:Lf.length=q at*
  have hq0:(0:Int)≤(q:Int):=by omega
  have hsub:((q:Int)+1-1)=(q:Int):=by omega
  have hwr:IntKind.i64.wrap (q:Int)=(q:Int):=by unfold IntKind.wrap;simp[IntKind.bits,IntKind.signed];omega
  have hqc:q≤cap:=by omega
  clear hM
  by_cases hxs:x∈Sn
  ·rw[decide_eq_true hxs]at hmd
   go_wp2_with(at_lookup;refine wpList_lookup_own_unit _ rfl _ _ 258 rfl 3 105 tk Tryz.underlying258 (hz0 _) (w.heap.size+1) Sn.length D rfl hmp (.int .i64 x) (.int .i64 x) rfl hky ?_;rw[hmd])
   go_roundg (q+pot s.L Sn s.L.length)
   case measure=>omega
   case rel=>exact⟨rs,Sn,Lf,C,D,hide (hM2.out.grow (below_alloc _ _)),hide (hP.out.old hxs),hide ⟨by rw[hq],by omega,hgk2.2.2⟩⟩
  rw[decide_eq_false hxs]at hmd
  have hM3:=hide (hM2.out.grow (below_alloc wr (.cells #[] 105)))
  have hmp3:=hM3.out.mp
  have hml:Sn.length<maxLen:=by unfold maxLen;omega
  go_wp2_with(first|(at_lookup;refine wpList_lookup_own_unit _ rfl _ _ 258 rfl 3 105 tk Tryz.underlying258 (hz0 _) (w.heap.size+1) Sn.length D rfl hmp (.int .i64 x) (.int .i64 x) rfl hky ?_;rw[hmd])|(at_mapUpdate;refine wpList_mapUpdate_own _ rfl _ _ _ 258 rfl 3 105 tk Tryz.underlying258 unitElem (w.heap.size+1) Sn.length D rfl hmp3 hml _ _ (.int .i64 x) rfl rfl hky (.agg []) [] unitElem_mk ?_;intro w4 hm4 hg4;have hM4:=hide (hM3.out.seen hx64 hm4 hg4);clear hm4 hg4 hM3 hmp3 hmp hmd hcx hM2 hz0))
  have hnode:=hide (node9_n (hLk.out w4 hM4.out.k).2.1.ax hV h0 (B:=2097152) hkk o_m x)
  clear hml hky
  refine hnode.out.mono ?_
  rintro e w5 (⟨hok,xr,rfl,hN,k5⟩|⟨hok,rfl,k5⟩)
  ·obtain⟨kdn,sd,ad,ld,cd,ap,np,cp,sk,ak,lk,ck,vr,kka,kkn,kkc⟩:=xr
   obtain rfl:kdn=(ndI s.L x).kind:=hN.kd
   obtain rfl:vr=(ndI s.L x).var:=hN.vr
   obtain rfl:kkn=(ndI s.L x).kids.length:=hN.kids.1.symm
   simp only[nE]
   have hx0:=hok.1
   have hpa:=pot_add s.L Sn x hx0 hxs s.L.length hok.2
   have hp1:=pot_one Sn x hx0 hxs s.L.length hok.2
   have hM5:=hide (hM4.out.grow k5)
   have hlw:=hLk.out w5 hM5.out.k
   have ul0:=hlw.1.c0
   have ul2:=hlw.1.c2
   have hll5:=hlw.1.lt
   have b6:=below_alloc w5 (.cells #[.int .i64 (ndI s.L x).kind,.bool sd,.slice ad ld cd,.slice ap np cp,.bool sk,.slice ak lk ck,.int .i64 (ndI s.L x).var,.slice kka (ndI s.L x).kids.length kkc] 69)
   have hM6:=hide (hM5.out.grow b6)
   clear hLk hlw hnode
   by_cases hkd:(ndI s.L x).kind=kd
   ·have hkl:2≤(ndI s.L x).kids.length:=by
     rcases hV.cases hok with⟨_,e⟩|⟨_,e⟩|⟨_,f,_,hf,_,e,_⟩|⟨_,k1,kids,_,e,h5,_⟩|⟨_,k1,v1,x1,hf,e,_⟩
     ·rw[e]at hkd;simp[cst]at hkd;omega
     ·rw[e]at hkd;simp[cst]at hkd;omega
     ·rw[e]at hkd;dsimp only at hkd;omega
     ·rw[e];exact h5
     rw[e]at hkd;dsimp only at hkd;omega
    have hIk:=hide (hN.kids.below b6)
    have hlr:=hM6.out.lr
    rw[hq]at hlr
    replace hlr:=hide hlr
    have hsz:=hM6.out.k.size
    have hsp:=hide (hP.out.kids hok hkd)
    have hkI:Hid (∀z∈(ndI s.L x).kids,I64 z):=hide fun z hz=>by
     have h7:=hV.wk x hok z hz
     have h8:=hok.2
     unfold I64
     omega
    have hmore:Hid (∀v' w',World.ownsRow w' w1.heap.size 3 1 v' (q+(ndI s.L x).kids.length) ((Lf++(ndI s.L x).kids).map (Value.int .i64))→World.grownBy (w5.alloc (.cells #[.int .i64 (ndI s.L x).kind,.bool sd,.slice ad ld cd,.slice ap np cp,.bool sk,.slice ak lk ck,.int .i64 (ndI s.L x).var,.slice kka (ndI s.L x).kids.length kkc] 69)) w' (Value.slice (some ⟨g,0,none⟩) q cap).ownBlock→(v'.ownBlock=(Value.slice (some ⟨g,0,none⟩) q cap).ownBlock∨v'.ownBlock=some (w5.alloc (.cells #[.int .i64 (ndI s.L x).kind,.bool sd,.slice ad ld cd,.slice ap np cp,.bool sk,.slice ak lk ck,.int .i64 (ndI s.L x).var,.slice kka (ndI s.L x).kids.length kkc] 69)).heap.size)→SpM w1 w' s.L (w.heap.size+1) (.slice a5 rs.length c5) v' rs (x::Sn) (Lf++(ndI s.L x).kids) C (D.put (.int .i64 x) (.agg []))):=hide fun v' w' ho hg ha=>hM6.out.more (by rw[hq];exact ho) hg ha hkI.out
    replace hN:=hide hN
    clear hM4 hM5 hM6 hP
    subst hkd
    go_wp2_with(at_builtin;go_loud(refine app_ii rfl _ _ rfl w1.heap.size _ _ _ rfl hlr.out kka (ndI s.L x).kids.length kkc (ndI s.L x).kids rfl o_m hIk.out o_m hsz ?_);intro v' w' ho hg ha;have h7:=hide (hmore.out v' w' ho hg ha);clear ho hg ha hmore hlr hIk)
    go_roundg (q+(ndI s.L x).kids.length+pot s.L (x::Sn) s.L.length)
    case measure=>omega
    case rel=>exact⟨rs,x::Sn,Lf++(ndI s.L x).kids,C,_,h7,hsp,hide ⟨by rw[List.length_append,hq],by omega,by rw[List.length_cons];omega,by rw[List.length_cons];omega⟩⟩
   by_cases hxi:x=idle
   ·subst hxi
    have hsp:=hide (hP.out.idle hok hkd)
    replace hN:=hide hN
    clear hM4 hM5 hP
    go_wp2_with fail
    go_roundg (q+pot s.L (x::Sn) s.L.length)
    case measure=>omega
    case rel=>exact⟨rs,x::Sn,Lf,C,_,hM6,hsp,hide ⟨by rw[hq],by omega,by rw[List.length_cons];omega,by rw[List.length_cons];omega⟩⟩
   have hsp:=hide (hP.out.mem hxs hok hkd hxi)
   have b7:=below_alloc' b6 (.cells #[.int .i64 x,.int .i64 (ndI s.L x).kind,.bool sd,.slice ad ld cd,.slice ap np cp,.bool sk,.slice ak lk ck,.int .i64 (ndI s.L x).var,.slice kka (ndI s.L x).kids.length kkc] 233)
   have hM7:=hide (hM5.out.grow b7)
   have hN7:NC (fun b=>w4.heap.size≤b∧b<w5.heap.size) ((w5.alloc (.cells #[.int .i64 (ndI s.L x).kind,.bool sd,.slice ad ld cd,.slice ap np cp,.bool sk,.slice ak lk ck,.int .i64 (ndI s.L x).var,.slice kka (ndI s.L x).kids.length kkc] 69)).alloc (.cells #[.int .i64 x,.int .i64 (ndI s.L x).kind,.bool sd,.slice ad ld cd,.slice ap np cp,.bool sk,.slice ak lk ck,.int .i64 (ndI s.L x).var,.slice kka (ndI s.L x).kids.length kkc] 233)) ⟨(ndI s.L x).kind,sd,ad,ld,cd,ap,np,cp,sk,ak,lk,ck,(ndI s.L x).var,kka,(ndI s.L x).kids.length,kkc⟩ (ndI s.L x) 2097152:=hN.move b7.size (fun b _ hl=>b7.block b hl) fun b hb hl=>⟨hb,hl⟩
   have hG7: ∀b,(w4.heap.size≤b∧b<w5.heap.size)→b<((w5.alloc (.cells #[.int .i64 (ndI s.L x).kind,.bool sd,.slice ad ld cd,.slice ap np cp,.bool sk,.slice ak lk ck,.int .i64 (ndI s.L x).var,.slice kka (ndI s.L x).kids.length kkc] 69)).alloc (.cells #[.int .i64 x,.int .i64 (ndI s.L x).kind,.bool sd,.slice ad ld cd,.slice ap np cp,.bool sk,.slice ak lk ck,.int .i64 (ndI s.L x).var,.slice kka (ndI s.L x).kids.length kkc] 233)).heap.size∧b≠w.heap.size+1∧(Value.slice a5 rs.length c5).ownBlock≠some b∧(Value.slice (some ⟨g,0,none⟩) q cap).ownBlock≠some b:=fun b hb=>by
    have h1:=hM4.out.bs
    have h2:=b7.size
    exact⟨by omega,by omega,fun e=>by have:=(hM4.out.mr.lt b e).2;omega,fun e=>by have:=(hM4.out.lr.lt b e).2;omega⟩
   have e6:(w5.alloc (.cells #[.int .i64 (ndI s.L x).kind,.bool sd,.slice ad ld cd,.slice ap np cp,.bool sk,.slice ak lk ck,.int .i64 (ndI s.L x).var,.slice kka (ndI s.L x).kids.length kkc] 69)).heap.size=w5.heap.size+1:=by simp
   have hB7:Hid (M9B ((w5.alloc (.cells #[.int .i64 (ndI s.L x).kind,.bool sd,.slice ad ld cd,.slice ap np cp,.bool sk,.slice ak lk ck,.int .i64 (ndI s.L x).var,.slice kka (ndI s.L x).kids.length kkc] 69)).alloc (.cells #[.int .i64 x,.int .i64 (ndI s.L x).kind,.bool sd,.slice ad ld cd,.slice ap np cp,.bool sk,.slice ak lk ck,.int .i64 (ndI s.L x).var,.slice kka (ndI s.L x).kids.length kkc] 233)) (w5.heap.size+1) x ⟨(ndI s.L x).kind,sd,ad,ld,cd,ap,np,cp,sk,ak,lk,ck,(ndI s.L x).var,kka,(ndI s.L x).kids.length,kkc⟩):=hide (e6▸heap_alloc_new (w5.alloc (.cells #[.int .i64 (ndI s.L x).kind,.bool sd,.slice ad ld cd,.slice ap np cp,.bool sk,.slice ak lk ck,.int .i64 (ndI s.L x).var,.slice kka (ndI s.L x).kids.length kkc] 69)) (.cells #[.int .i64 x,.int .i64 (ndI s.L x).kind,.bool sd,.slice ad ld cd,.slice ap np cp,.bool sk,.slice ak lk ck,.int .i64 (ndI s.L x).var,.slice kka (ndI s.L x).kids.length kkc] 233))
   have hmr:=hide hM7.out.mr
   have hsz:=hM7.out.k.size
   have hput:Hid (∀v' w',World.ownsRow w' w1.heap.size 233 9 v' (rs.length+1) (flat9 (rs++ [⟨x,⟨(ndI s.L x).kind,sd,ad,ld,cd,ap,np,cp,sk,ak,lk,ck,(ndI s.L x).var,kka,(ndI s.L x).kids.length,kkc⟩,ndI s.L x⟩]))→World.grownBy ((w5.alloc (.cells #[.int .i64 (ndI s.L x).kind,.bool sd,.slice ad ld cd,.slice ap np cp,.bool sk,.slice ak lk ck,.int .i64 (ndI s.L x).var,.slice kka (ndI s.L x).kids.length kkc] 69)).alloc (.cells #[.int .i64 x,.int .i64 (ndI s.L x).kind,.bool sd,.slice ad ld cd,.slice ap np cp,.bool sk,.slice ak lk ck,.int .i64 (ndI s.L x).var,.slice kka (ndI s.L x).kids.length kkc] 233)) w' (Value.slice a5 rs.length c5).ownBlock→(v'.ownBlock=(Value.slice a5 rs.length c5).ownBlock∨v'.ownBlock=some ((w5.alloc (.cells #[.int .i64 (ndI s.L x).kind,.bool sd,.slice ad ld cd,.slice ap np cp,.bool sk,.slice ak lk ck,.int .i64 (ndI s.L x).var,.slice kka (ndI s.L x).kids.length kkc] 69)).alloc (.cells #[.int .i64 x,.int .i64 (ndI s.L x).kind,.bool sd,.slice ad ld cd,.slice ap np cp,.bool sk,.slice ak lk ck,.int .i64 (ndI s.L x).var,.slice kka (ndI s.L x).kids.length kkc] 233)).heap.size)→SpM w1 w' s.L (w.heap.size+1) v' (.slice (some ⟨g,0,none⟩) q cap) (rs++ [⟨x,⟨(ndI s.L x).kind,sd,ad,ld,cd,ap,np,cp,sk,ak,lk,ck,(ndI s.L x).var,kka,(ndI s.L x).kids.length,kkc⟩,ndI s.L x⟩]) (x::Sn) Lf (fun b=>C b∨(w4.heap.size≤b∧b<w5.heap.size)) (D.put (.int .i64 x) (.agg []))):=hide fun v' w' ho hg ha=>hM7.out.put rfl hN7 hG7 ho hg ha
   clear hM4 hM5 hM6 hM7 hP hN hN7 hG7 b6 b7 e6
   go_wp2_with(at_builtin;go_loud(refine app9 rfl _ _ rfl w1.heap.size _ _ _ rfl hmr.out ⟨x,⟨(ndI s.L x).kind,sd,ad,ld,cd,ap,np,cp,sk,ak,lk,ck,(ndI s.L x).var,kka,(ndI s.L x).kids.length,kkc⟩,ndI s.L x⟩ (w5.heap.size+1) rfl hB7.out o_m hsz ?_);intro v' w' ho hg ha;have h7:=hide (hput.out v' w' ho hg ha);clear ho hg ha hput hmr hB7)
   go_roundg (q+pot s.L (x::Sn) s.L.length)
   case measure=>omega
   case rel=>exact⟨_,x::Sn,Lf,_,_,h7,hide (by rw[List.map_append];exact hsp.out),hide ⟨by rw[hq],by omega,by simp;omega,by rw[List.length_cons];omega⟩⟩
  have hbad:=rk_bad hV.wk (hP.out.l x (by simp)) hok
  have hfin:Hid (∀w',Below w5.heap.size w5 w'→SpP w w' (.returned (.tuple #[.slice none 0 0,.int .i64 80])) s.L kd idle ids):=hide fun w' k'=>⟨grow_step k' (grow_step k5 (hLk.out w4 hM4.out.k).2.2),.inl ⟨hbad,rfl⟩⟩
  simp only[nE,zNR]
  clear hLk hM4 hP hnode k5 hbad
  have b6:=hide (hfin.out _ (below_alloc w5 (.cells #[.int .i64 0,.bool false,.slice none 0 0,.slice none 0 0,.bool false,.slice none 0 0,.int .i64 0,.slice none 0 0] 69)))
  clear hfin
  go_wp2_with fail
  first|refine bodyPost_ret (results_tmp2 rfl _ _ _) rfl ?_|(rw[Exit.noGoto_ret];refine bodyPost_ret (results_tmp2 rfl _ _ _) rfl ?_)|trace_state
  exact b6.out
end Nt
end Go.Proofs.YtbgpddlcfiiiaaaGreatDoor
