/-
 Several texts in one: JI,JP,JS,JT,JU.
-/
import Derived.Test.YtllfelooahplhaaGreatDoorSimT
import Derived.Test.YtllfelooahplhaaGreatDoorSim46
import Derived.Shelf.SlSortCmp.NoneTotal
import Derived.Test.YtllfelooahplhaaGreatDoorSim45
import Derived.Test.YtllfelooahplhaaGreatDoorSim41
set_option maxRecDepth 100000
set_option maxHeartbeats 3200000
namespace Go.Proofs.YtllfelooahplhaaGreatDoor
open Go.RowKit Go.Sort Go.Shelf
open Tm At
namespace Nt

theorem below_drew2 {w w':World}(h:Below w.heap.size w w'):Below w.heap.size w w'.drew:=⟨h.os,h.tape,h.output,h.size,h.block⟩
theorem gb_below {w w' w'':World}{g:Option Nat}(h:w.grownBy w' g)(k:Below w'.heap.size w' w''):w.grownBy w'' g:=⟨k.os.trans h.os,k.tape.trans h.tape,k.output.trans h.output,Nat.le_trans h.size k.size,fun i hi hn=>(k.block i (Nat.lt_of_lt_of_le hi h.size)).trans (h.block i hi hn)⟩
theorem compact_n {w:World}{g cap n K:Nat}{c1 cur:Array Value}{rs:List Mr}{q:Mr→Mr→Bool}(hR:RB9 w g cap rs cur)(hn:rs.length=n)(hb:n≤1048000)(_hg:g<w.heap.size)
  (eg: ∀args w,(callFunc K args).run Tryz.prog w= .ok (.enter K args) w)
  (hq: ∀w' (x y:Mr),x∈rs→y∈rs→w.grownBy w' (some g)→Calls Tryz.prog K (#[.agg (mE x.id x.x),.agg (mE y.id y.x)]++c1) w' fun e w''=>e= .returned (.bool (q x y))∧Below w'.heap.size w' w''):
  Calls Tryz.prog 155 #[.slice (some ⟨g,0,none⟩) n cap,.func (.func K) #[] c1] w fun e w'=> ∃cur',e= .returned (.slice (some ⟨g,0,none⟩) (dd q rs).length cap)∧RB9 w' g cap (dd q rs) cur'∧w.grownBy w' (some g):=by
 have hcap:=hR.l
 have hgb:Hid (∀w',Below w.heap.size w w'→w.grownBy w' (some g)):=hide fun w' k=>⟨k.os,k.tape,k.output,k.size,fun i hi _=>k.block i hi⟩
 have hcy:Hid (∀s,s<n→∀w' rs' cur',rs'.length=n→RB9 w' g cap rs' cur'→∀j,j<9→w'.cell? ⟨g,s*9+j,none⟩=(gm rs' s).enc[j]?):=hide fun s hs w' rs' cur' hl h j hj=>by
  rw[gm_get o_m]
  exact h.cell o_m hj
 have hC:Hid (∀t s w',t<n→s<n→w.grownBy w' (some g)→Calls Tryz.prog K (#[.agg (mE (gm rs t).id (gm rs t).x),.agg (mE (gm rs s).id (gm rs s).x)]++c1) w' fun e w''=>e= .returned (.bool (q (gm rs t) (gm rs s)))∧Below w'.heap.size w' w''):=hide fun t s w' ht hs k=>hq w' _ _ (gm_mem o_m) (gm_mem o_m) k
 clear hq
 replace hn:=hide hn
 replace hR:=hide hR
 go_enter Tryz.func155,Tryz.ntmps155
 by_cases h2:n<2
 ·go_wp2_with fail
  have hd:dd q rs=rs:=by
   have hl:=hn.out
   rcases rs with _|⟨x,_|⟨y,t⟩⟩
   ·rfl
   ·rfl
   simp at hl
   omega
  go_ret
  refine⟨cur,?_,by rw[hd];exact hR.out,hgb.out _ (Below.refl _ _)⟩
  rw[hd,hn.out]
  rfl
 go_wp2_with fail
 go_loopw [5] (fun k wr=> ∃t:Nat,1≤t∧t≤n∧k= .int .i64 t∧Hid (dd q (rs.take t)=rs.take t)∧Hid (Below w.heap.size w wr)) (fun k _=>n-(intOf k).toNat)
 case atStart=>exact⟨1,by omega,by omega,rfl,hide (dd_one q (by have:=hn.out;omega)),hide (Below.refl _ _)⟩
 case round=>
  obtain⟨t,ht1,ht,rfl,hd,kr⟩:=hrel
  by_cases htn:t<n
  ·obtain⟨t,rfl⟩: ∃t',t=t'+1:=⟨t-1,by omega⟩
   have hRr:=hide (hR.out.below kr.out)
   have hcx:Hid (∀w',Below w.heap.size w w'→∀c,c<9→w'.cell? ⟨g,(t+1)*9+c,none⟩=(gm rs (t+1)).enc[c]?):=hide fun w' k=>hcy.out (t+1) htn w' rs cur hn.out (hR.out.below k)
   have hcz:Hid (∀w',Below w.heap.size w w'→∀c,c<9→w'.cell? ⟨g,t*9+c,none⟩=(gm rs t).enc[c]?):=hide fun w' k=>hcy.out t o_m w' rs cur hn.out (hR.out.below k)
   have hDc:=hide (fun w' (k:Below w.heap.size w w')=>hC.out (t+1) t w' htn o_m (hgb.out w' k))
   have hstep:Hid (q (gm rs (t+1)) (gm rs t)=false→dd q (rs.take (t+2))=rs.take (t+2)):=hide fun e=>dd_grow ht1 (by have:=hn.out;omega) hd.out (by rw[gm_get (by have:=hn.out;omega),gm_get (by have:=hn.out;omega)]at e;exact e)
   have hgo:Hid (q (gm rs (t+1)) (gm rs t)=true→Cp q rs rs (t+2) (t+1)):=hide fun e=>Cp.start ht1 (by have:=hn.out;omega) hd.out (by rw[gm_get (by have:=hn.out;omega),gm_get (by have:=hn.out;omega)]at e;exact e)
   generalize gm rs (t+1)=mx at*
   generalize gm rs t=my at*
   obtain⟨i,⟨kd1,sd1,ad1,ld1,cd1,ap1,np1,cp1,sk1,ak1,lk1,ck1,vr1,ka1,kn1,kc1⟩,nx⟩:=mx
   obtain⟨j,⟨kd2,sd2,ad2,ld2,cd2,ap2,np2,cp2,sk2,ak2,lk2,ck2,vr2,ka2,kn2,kc2⟩,ny⟩:=my
   generalize q _ _=qv at*
   simp only[mE]at hDc
   have h01:(0:Int)≤(t:Int)+1:=by omega
   have h02:(0:Int)≤(t:Int):=by omega
   have hsub:((t:Int)+1-1)=(t:Int):=by omega
   have hlt2:(t:Int)<(n:Int):=by omega
   have hwr:IntKind.i64.wrap (t:Int)=(t:Int):=by unfold IntKind.wrap;simp[IntKind.bits,IntKind.signed];omega
   have hS:Hid (∀w',Below w.heap.size w w'→w'.cell? ⟨g,(t+1)*9,none⟩=some (.int .i64 i)∧w'.cell? ⟨g,(t+1)*9+1,none⟩=some (.int .i64 kd1)∧w'.cell? ⟨g,(t+1)*9+2,none⟩=some (.bool sd1)∧w'.cell? ⟨g,(t+1)*9+3,none⟩=some (.slice ad1 ld1 cd1)∧w'.cell? ⟨g,(t+1)*9+4,none⟩=some (.slice ap1 np1 cp1)∧w'.cell? ⟨g,(t+1)*9+5,none⟩=some (.bool sk1)∧w'.cell? ⟨g,(t+1)*9+6,none⟩=some (.slice ak1 lk1 ck1)∧w'.cell? ⟨g,(t+1)*9+7,none⟩=some (.int .i64 vr1)∧w'.cell? ⟨g,(t+1)*9+8,none⟩=some (.slice ka1 kn1 kc1)∧w'.cell? ⟨g,t*9,none⟩=some (.int .i64 j)∧w'.cell? ⟨g,t*9+1,none⟩=some (.int .i64 kd2)∧w'.cell? ⟨g,t*9+2,none⟩=some (.bool sd2)∧w'.cell? ⟨g,t*9+3,none⟩=some (.slice ad2 ld2 cd2)∧w'.cell? ⟨g,t*9+4,none⟩=some (.slice ap2 np2 cp2)∧w'.cell? ⟨g,t*9+5,none⟩=some (.bool sk2)∧w'.cell? ⟨g,t*9+6,none⟩=some (.slice ak2 lk2 ck2)∧w'.cell? ⟨g,t*9+7,none⟩=some (.int .i64 vr2)∧w'.cell? ⟨g,t*9+8,none⟩=some (.slice ka2 kn2 kc2)∧Below w.heap.size w w'):=hide fun w' k=>by
    have c1:=hcx.out w' k
    have c2:=hcz.out w' k
    exact⟨c1 0 (by decide),c1 1 (by decide),c1 2 (by decide),c1 3 (by decide),c1 4 (by decide),c1 5 (by decide),c1 6 (by decide),c1 7 (by decide),c1 8 (by decide),c2 0 (by decide),c2 1 (by decide),c2 2 (by decide),c2 3 (by decide),c2 4 (by decide),c2 5 (by decide),c2 6 (by decide),c2 7 (by decide),c2 8 (by decide),k⟩
   clear hcx hcz
   go_wp2_with fail
   refine wp_region_held_drew (S:=fun w'=>w'.cell? ⟨g,(t+1)*9,none⟩=some (.int .i64 i)∧w'.cell? ⟨g,(t+1)*9+1,none⟩=some (.int .i64 kd1)∧w'.cell? ⟨g,(t+1)*9+2,none⟩=some (.bool sd1)∧w'.cell? ⟨g,(t+1)*9+3,none⟩=some (.slice ad1 ld1 cd1)∧w'.cell? ⟨g,(t+1)*9+4,none⟩=some (.slice ap1 np1 cp1)∧w'.cell? ⟨g,(t+1)*9+5,none⟩=some (.bool sk1)∧w'.cell? ⟨g,(t+1)*9+6,none⟩=some (.slice ak1 lk1 ck1)∧w'.cell? ⟨g,(t+1)*9+7,none⟩=some (.int .i64 vr1)∧w'.cell? ⟨g,(t+1)*9+8,none⟩=some (.slice ka1 kn1 kc1)∧w'.cell? ⟨g,t*9,none⟩=some (.int .i64 j)∧w'.cell? ⟨g,t*9+1,none⟩=some (.int .i64 kd2)∧w'.cell? ⟨g,t*9+2,none⟩=some (.bool sd2)∧w'.cell? ⟨g,t*9+3,none⟩=some (.slice ad2 ld2 cd2)∧w'.cell? ⟨g,t*9+4,none⟩=some (.slice ap2 np2 cp2)∧w'.cell? ⟨g,t*9+5,none⟩=some (.bool sk2)∧w'.cell? ⟨g,t*9+6,none⟩=some (.slice ak2 lk2 ck2)∧w'.cell? ⟨g,t*9+7,none⟩=some (.int .i64 vr2)∧w'.cell? ⟨g,t*9+8,none⟩=some (.slice ka2 kn2 kc2)∧Below w.heap.size w w') k_f (hS.out _ (below_drew2 kr.out)) (fun hHeld=> ?_)
   show wpAnyH _ _ _ _ _ 11 _ _ _
   refine tkz 0 18 ?_
   (try simp only[pz])
   refine tkz 1 19 ?_
   (try simp only[pz])
   refine tkz 2 20 ?_
   (try simp only[pz])
   refine tkz 3 21 ?_
   (try simp only[pz])
   refine tkz 4 22 ?_
   (try simp only[pz])
   refine tkz 5 23 ?_
   (try simp only[pz])
   refine tkz 6 24 ?_
   (try simp only[pz])
   refine tkz 7 25 ?_
   (try simp only[pz])
   refine tkz 8 26 ?_
   (try simp only[pz])
   refine tkz 9 27 ?_
   (try simp only[pz])
   refine ryz 10 (some 28) (fun K' hK=> ?_) AllReadyH.nil
   clear hHeld
   rw[if_pos k_f]
   go_simp
   refine Calls.mono (hDc.out _ (below_drew2 kr.out)) ?_
   rintro e w3 ⟨rfl,k3⟩
   have k4:=hide (grow_step k3 (below_drew2 kr.out))
   clear hDc k3
   (try go_wp2_with fail)
   refine hK.out _ _ ?_ ?_
   ·(try dsimp only);exact hS.out _ k4.out
   clear hK;intro hHeld
   (try simp only[pz])
   clear hHeld hS
   refine wpAnyH_done k_f ?_ _
   cases qv with
   |false=>
    have hd2:=hide (hstep.out rfl)
    clear hstep hgo hcy hC hR hRr hgb hd kr h01 h02 hsub hlt2 hwr
    go_wp2_with fail
    exact⟨⟨t+2,by omega,by omega,by go_num,hd2,k4⟩,by simp[intOf];omega⟩
   |true=>
    have hcp:=hide (hgo.out rfl)
    have hR3:=hide (hR.out.below k4.out)
    have g3:=hide (hgb.out _ k4.out)
    have hnc:n≤cap:=by have:=hn.out;omega
    have hcn: ¬cap=t+1:=by omega
    clear hstep hgo hR hRr hgb hd kr h01 h02 hsub hlt2 hwr k4
    go_wp2_with fail
    go_loopw [5,7] (fun kv mv wi=> ∃(m k:Nat) (cl:List Mr) (cv:Array Value),1≤m∧t+1+m≤n∧1≤k∧k<t+1+m∧kv= .int .i64 k∧mv= .int .i64 m∧Hid (Cp q rs cl (t+1+m) k)∧Hid (RB9 wi g cap cl cv)∧Hid (w.grownBy wi (some g))) (fun _ mv _=>n-(intOf mv).toNat)
    case atStart=>exact⟨1,t+1,rs,cur,by omega,by omega,by omega,by omega,rfl,rfl,hcp,hR3,g3⟩
    case round=>
     obtain⟨m,k,cl,cv,hm1,hmn,hk1,hkm,rfl,rfl,hC2,hRi,gi⟩:=hrel
     clear hcp hR3 g3
     by_cases hlt:t+1+m<n
     ·obtain⟨m,rfl⟩: ∃m',m=m'+1:=⟨m-1,by omega⟩
      have hcl:Hid (cl.length=n):=hide (hC2.out.len.trans hn.out)
      have hex:gm cl (t+1+(m+1))=gm rs (t+1+(m+1)):=by
       have h1:=hn.out
       have h3:=hC2.out.at (i:=t+1+(m+1)) o_m o_m
       rw[gm_get (by rw[hcl.out];omega),gm_get o_m,h3]
      have hey:gm cl (t+1+m)=gm rs (t+1+m):=by
       have h1:=hn.out
       have h3:=hC2.out.at (i:=t+1+m) o_m o_m
       rw[gm_get (by rw[hcl.out];omega),gm_get o_m,h3]
      have hcx:Hid (∀w',Below wr.heap.size wr w'→∀c,c<9→w'.cell? ⟨g,(t+1)*9+(m+1)*9+c,none⟩=(gm rs (t+1+(m+1))).enc[c]?):=hide fun w' k c hc=>by
       have h1:=hcy.out (t+1+(m+1)) hlt w' cl cv hcl.out (hRi.out.below k) c hc
       rw[hex,show(t+1+(m+1))*9=(t+1)*9+(m+1)*9 by omega]at h1
       exact h1
      have hcz:Hid (∀w',Below wr.heap.size wr w'→∀c,c<9→w'.cell? ⟨g,(t+1)*9+m*9+c,none⟩=(gm rs (t+1+m)).enc[c]?):=hide fun w' k c hc=>by
       have h1:=hcy.out (t+1+m) o_m w' cl cv hcl.out (hRi.out.below k) c hc
       rw[hey,show(t+1+m)*9=(t+1)*9+m*9 by omega]at h1
       exact h1
      have hck:Hid (∀w',Below wr.heap.size wr w'→∀c,c<9→w'.cell? ⟨g,k*9+c,none⟩=(gm cl k).enc[c]?):=hide fun w' k' c hc=>hcy.out k o_m w' cl cv hcl.out (hRi.out.below k') c hc
      have hfz:Hid (∀w',Below wr.heap.size wr w'→∀off,w'.frozen? ⟨g,off,none⟩=false):=hide fun w' k' off=>frozen_of_row w' g _ _ _ (hRi.out.below k').b
      have hDc:=hide (fun w' (k:Below wr.heap.size wr w')=>hC.out (t+1+(m+1)) (t+1+m) w' hlt o_m (gb_below gi.out k))
      have hskip:Hid (q (gm rs (t+1+(m+1))) (gm rs (t+1+m))=true→Cp q rs cl (t+1+(m+1)+1) k):=hide fun e=>hC2.out.skip (by have:=hn.out;omega) (by rw[gm_get (by have:=hn.out;omega),gm_get (by have:=hn.out;omega)]at e;exact e)
      have hput:Hid (q (gm rs (t+1+(m+1))) (gm rs (t+1+m))=false→Cp q rs (cl.set k (gm rs (t+1+(m+1)))) (t+1+(m+1)+1) (k+1)):=hide fun e=>by
       have h3:=hC2.out.put (by have:=hn.out;omega) (by rw[gm_get (by have:=hn.out;omega),gm_get (by have:=hn.out;omega)]at e;exact e)
       rw[gm_get (by have:=hn.out;omega)]
       exact h3
      have hset:Hid (∀w',Below wr.heap.size wr w'→RB9 (wset9 w' g k (gm rs (t+1+(m+1)))) g cap (cl.set k (gm rs (t+1+(m+1)))) (set9 cv k (gm rs (t+1+(m+1))))∧w.grownBy (wset9 w' g k (gm rs (t+1+(m+1)))) (some g)):=hide fun w' k'=>⟨(hRi.out.below k').set (by rw[hcl.out];omega) _,gb_trans (gb_below gi.out k') (wset9_grown _ _ _ _)⟩
      clear hex hey hcl
      generalize gm rs (t+1+(m+1))=mx at*
      generalize gm rs (t+1+m)=my at*
      generalize gm cl k=mz at*
      obtain⟨i3,⟨kd3,sd3,ad3,ld3,cd3,ap3,np3,cp3,sk3,ak3,lk3,ck3,vr3,ka3,kn3,kc3⟩,nx3⟩:=mx
      obtain⟨i4,⟨kd4,sd4,ad4,ld4,cd4,ap4,np4,cp4,sk4,ak4,lk4,ck4,vr4,ka4,kn4,kc4⟩,ny4⟩:=my
      obtain⟨i5,⟨kd5,sd5,ad5,ld5,cd5,ap5,np5,cp5,sk5,ak5,lk5,ck5,vr5,ka5,kn5,kc5⟩,nz5⟩:=mz
      generalize q _ _=qv at*
      simp only[mE]at hDc
      have h01:(0:Int)≤(m:Int)+1:=by omega
      have h02:(0:Int)≤(m:Int):=by omega
      have hsub:((m:Int)+1-1)=(m:Int):=by omega
      have hl1:(m:Int)+1<((n-(t+1):Nat):Int):=by omega
      have hl2:(m:Int)<((n-(t+1):Nat):Int):=by omega
      have hwr:IntKind.i64.wrap (m:Int)=(m:Int):=by unfold IntKind.wrap;simp[IntKind.bits,IntKind.signed];omega
      have hS:Hid (∀w',Below wr.heap.size wr w'→w'.cell? ⟨g,(t+1)*9+(m+1)*9,none⟩=some (.int .i64 i3)∧w'.cell? ⟨g,(t+1)*9+(m+1)*9+1,none⟩=some (.int .i64 kd3)∧w'.cell? ⟨g,(t+1)*9+(m+1)*9+2,none⟩=some (.bool sd3)∧w'.cell? ⟨g,(t+1)*9+(m+1)*9+3,none⟩=some (.slice ad3 ld3 cd3)∧w'.cell? ⟨g,(t+1)*9+(m+1)*9+4,none⟩=some (.slice ap3 np3 cp3)∧w'.cell? ⟨g,(t+1)*9+(m+1)*9+5,none⟩=some (.bool sk3)∧w'.cell? ⟨g,(t+1)*9+(m+1)*9+6,none⟩=some (.slice ak3 lk3 ck3)∧w'.cell? ⟨g,(t+1)*9+(m+1)*9+7,none⟩=some (.int .i64 vr3)∧w'.cell? ⟨g,(t+1)*9+(m+1)*9+8,none⟩=some (.slice ka3 kn3 kc3)∧w'.cell? ⟨g,(t+1)*9+m*9,none⟩=some (.int .i64 i4)∧w'.cell? ⟨g,(t+1)*9+m*9+1,none⟩=some (.int .i64 kd4)∧w'.cell? ⟨g,(t+1)*9+m*9+2,none⟩=some (.bool sd4)∧w'.cell? ⟨g,(t+1)*9+m*9+3,none⟩=some (.slice ad4 ld4 cd4)∧w'.cell? ⟨g,(t+1)*9+m*9+4,none⟩=some (.slice ap4 np4 cp4)∧w'.cell? ⟨g,(t+1)*9+m*9+5,none⟩=some (.bool sk4)∧w'.cell? ⟨g,(t+1)*9+m*9+6,none⟩=some (.slice ak4 lk4 ck4)∧w'.cell? ⟨g,(t+1)*9+m*9+7,none⟩=some (.int .i64 vr4)∧w'.cell? ⟨g,(t+1)*9+m*9+8,none⟩=some (.slice ka4 kn4 kc4)∧Below wr.heap.size wr w'):=hide fun w' k=>by
       have c1:=hcx.out w' k
       have c2:=hcz.out w' k
       exact⟨c1 0 (by decide),c1 1 (by decide),c1 2 (by decide),c1 3 (by decide),c1 4 (by decide),c1 5 (by decide),c1 6 (by decide),c1 7 (by decide),c1 8 (by decide),c2 0 (by decide),c2 1 (by decide),c2 2 (by decide),c2 3 (by decide),c2 4 (by decide),c2 5 (by decide),c2 6 (by decide),c2 7 (by decide),c2 8 (by decide),k⟩
      clear hcz
      go_wp2_with fail
      refine wp_region_held_drew (S:=fun w'=>w'.cell? ⟨g,(t+1)*9+(m+1)*9,none⟩=some (.int .i64 i3)∧w'.cell? ⟨g,(t+1)*9+(m+1)*9+1,none⟩=some (.int .i64 kd3)∧w'.cell? ⟨g,(t+1)*9+(m+1)*9+2,none⟩=some (.bool sd3)∧w'.cell? ⟨g,(t+1)*9+(m+1)*9+3,none⟩=some (.slice ad3 ld3 cd3)∧w'.cell? ⟨g,(t+1)*9+(m+1)*9+4,none⟩=some (.slice ap3 np3 cp3)∧w'.cell? ⟨g,(t+1)*9+(m+1)*9+5,none⟩=some (.bool sk3)∧w'.cell? ⟨g,(t+1)*9+(m+1)*9+6,none⟩=some (.slice ak3 lk3 ck3)∧w'.cell? ⟨g,(t+1)*9+(m+1)*9+7,none⟩=some (.int .i64 vr3)∧w'.cell? ⟨g,(t+1)*9+(m+1)*9+8,none⟩=some (.slice ka3 kn3 kc3)∧w'.cell? ⟨g,(t+1)*9+m*9,none⟩=some (.int .i64 i4)∧w'.cell? ⟨g,(t+1)*9+m*9+1,none⟩=some (.int .i64 kd4)∧w'.cell? ⟨g,(t+1)*9+m*9+2,none⟩=some (.bool sd4)∧w'.cell? ⟨g,(t+1)*9+m*9+3,none⟩=some (.slice ad4 ld4 cd4)∧w'.cell? ⟨g,(t+1)*9+m*9+4,none⟩=some (.slice ap4 np4 cp4)∧w'.cell? ⟨g,(t+1)*9+m*9+5,none⟩=some (.bool sk4)∧w'.cell? ⟨g,(t+1)*9+m*9+6,none⟩=some (.slice ak4 lk4 ck4)∧w'.cell? ⟨g,(t+1)*9+m*9+7,none⟩=some (.int .i64 vr4)∧w'.cell? ⟨g,(t+1)*9+m*9+8,none⟩=some (.slice ka4 kn4 kc4)∧Below wr.heap.size wr w') k_f (hS.out _ (below_drew2 (Below.refl _ _))) (fun hHeld=> ?_)
      show wpAnyH _ _ _ _ _ 12 _ _ _
      refine tkz 0 38 ?_
      (try simp only[pz])
      refine tkz 1 39 ?_
      (try simp only[pz])
      refine tkz 2 40 ?_
      (try simp only[pz])
      refine tkz 3 41 ?_
      (try simp only[pz])
      refine tkz 4 42 ?_
      (try simp only[pz])
      refine tkz 5 43 ?_
      (try simp only[pz])
      refine tkz 6 44 ?_
      (try simp only[pz])
      refine tkz 7 45 ?_
      (try simp only[pz])
      refine tkz 8 46 ?_
      (try simp only[pz])
      refine tkz 9 47 ?_
      (try simp only[pz])
      refine ryz 10 (some 48) (fun K' hK=> ?_) AllReadyH.nil
      clear hHeld
      rw[if_pos k_f]
      go_simp
      refine Calls.mono (hDc.out _ (below_drew2 (Below.refl _ _))) ?_
      rintro e w3 ⟨rfl,k3⟩
      have k4:=hide (grow_step k3 (below_drew2 (Below.refl wr.heap.size wr)))
      clear hDc k3
      (try go_wp2_with fail)
      refine hK.out _ _ ?_ ?_
      ·(try dsimp only);exact hS.out _ k4.out
      clear hK;intro hHeld
      (try simp only[pz])
      refine ryz 11 (some 49) (fun K' hK=> ?_) AllReadyH.nil
      clear hHeld
      rw[if_pos k_f]
      go_simp
      refine hK.out _ _ ?_ ?_
      ·(try dsimp only);exact hS.out _ k4.out
      clear hK;intro hHeld
      (try simp only[pz])
      clear hHeld hS
      refine wpAnyH_done k_f ?_ _
      cases qv with
      |true=>
       have h5:=hide (hskip.out rfl)
       have h6:=hide (hRi.out.below k4.out)
       have h7:=hide (gb_below gi.out k4.out)
       clear hskip hput hset hcx hck hfz hcy hC hC2 hRi gi k4 h01 h02 hsub hl1 hl2 hwr
       go_wp2_with fail
       exact⟨⟨m+2,k,cl,cv,by omega,by omega,by omega,by omega,rfl,by go_num,h5,h6,h7⟩,by simp[intOf];omega⟩
      |false=>
       have h5:=hide (hput.out rfl)
       have h6:=hset.out w3 k4.out
       simp only[wset9]at h6
       replace h6:=hide h6
       have c1:=hcx.out w3 k4.out
       have e0:=c1 0 (by decide)
       have e1:=c1 1 (by decide)
       have e2:=c1 2 (by decide)
       have e3:=c1 3 (by decide)
       have e4:=c1 4 (by decide)
       have e5:=c1 5 (by decide)
       have e6:=c1 6 (by decide)
       have e7:=c1 7 (by decide)
       have e8:=c1 8 (by decide)
       have c2:=hck.out w3 k4.out
       have u0:=c2 0 (by decide)
       have u1:=c2 1 (by decide)
       have u2:=c2 2 (by decide)
       have u3:=c2 3 (by decide)
       have u4':=c2 4 (by decide)
       have u5:=c2 5 (by decide)
       have u6':=c2 6 (by decide)
       have u7':=c2 7 (by decide)
       have u8:=c2 8 (by decide)
       have c3:=hfz.out w3 k4.out
       have f0:=c3 (k*9)
       have f1:=c3 (k*9+1)
       have f2:=c3 (k*9+2)
       have f3:=c3 (k*9+3)
       have f4:=c3 (k*9+4)
       have f5:=c3 (k*9+5)
       have f6:=c3 (k*9+6)
       have f7:=c3 (k*9+7)
       have f8:=c3 (k*9+8)
       clear c1 c2 c3
       simp only[Mr.enc,mE,Nat.add_zero,List.getElem?_cons_zero,List.getElem?_cons_succ]at e0 e1 e2 e3 e4 e5 e6 e7 e8 u0 u1 u2 u3 u4' u5 u6' u7' u8
       have hk0:(0:Int)≤(k:Int):=by omega
       have hkn:(k:Int)<(n:Int):=by omega
       clear hskip hput hset hcx hck hfz hcy hC hC2 hRi gi k4 h02 hsub hl2 hwr
       go_wp2_with fail
       exact⟨⟨m+2,k+1,_,_,by omega,by omega,by omega,by omega,by go_num,by go_num,h5,hide h6.out.1,hide h6.out.2⟩,by simp[intOf];omega⟩
     obtain rfl:n=t+1+m:=by omega
     have hlen:=hC2.out.len
     have hcl: ∀ty,(Builtin.clear_ #[150] ty #[.slice (some ⟨g,k*9,none⟩) (t+1+m-k) (cap-k)]).run Tryz.prog wr= .ok (.tuple #[]) (wr.setRow g (clr9 cv (k*9) (t+1+m-k))):=by
      intro ty
      have h1:=clear_members (c:=cap-k) (k:=t+1+m-k-1) (o:=k*9) hRi.out.b (by have:=hRi.out.s;have:=hn.out;omega) ty
      rw[show t+1+m-k-1+1=t+1+m-k by omega]at h1
      exact h1
     have hdn:cl.take k=dd q rs:=by
      have h1:=hC2.out
      rw[←hn.out]at h1
      exact h1.done
     have hdl:(dd q rs).length=k:=by
      rw[←hdn,List.length_take,hlen,hn.out]
      omega
     have hfin:=hRi.out.cut (k:=k) (m:=t+1+m-k) (by rw[hlen,hn.out];omega)
     rw[hdn]at hfin
     have hgf:=gb_trans gi.out (setRow_grown wr g (clr9 cv (k*9) (t+1+m-k)))
     replace hfin:=hide hfin
     replace hgf:=hide hgf
     replace hdl:=hide hdl
     have hck: ¬cap=k:=by omega
     have hk0:(0:Int)≤(k:Int):=by omega
     have hkn:(k:Int)≤((t+1+m:Nat):Int):=by omega
     have hkc:(k:Int)≤(cap:Int):=by omega
     clear hdn hC2 hRi gi hcy hC hlen
     go_wp2_with fail
     first|go_ret|(rw[Exit.noGoto_ret];go_ret)
     exact⟨_,by rw[hdl.out];rfl,hfin.out,hgf.out⟩
  obtain rfl:t=n:=by omega
  have hdd:dd q rs=rs:=by
   have h3:=hd.out
   rwa [List.take_of_length_le (Nat.le_of_eq hn.out)]at h3
  clear hcy hC
  go_wp2_with fail
  first|go_ret|(rw[Exit.noGoto_ret];go_ret)
  exact⟨cur,by rw[hdd,hn.out];rfl,by rw[hdd];exact hR.out.below kr.out,hgb.out _ kr.out⟩
end Nt
namespace Nt

theorem sort9_row {w:World}{s0 n K:Nat}{cb:Array Value}{v:Value}{rs:List Mr}{ord:Mr→Mr→Int}(h:w.ownsRow s0 155 9 v n (flat9 rs))(hn:rs.length=n)(hnb:n≤1048000)
  (eg: ∀args w,(callFunc K args).run Tryz.prog w= .ok (.enter K args) w)(hl:Od.Lin ord)
  (hcmp: ∀w' (x y:Mr),x∈rs→y∈rs→w.grownBy w' v.ownBlock→Calls Tryz.prog K (#[.agg (mE x.id x.x),.agg (mE y.id y.x)]++cb) w' fun e w''=>e= .returned (.int .i64 (ord x y))∧Gr w' w''):
  Calls Tryz.prog 151 #[v,.func (.func K) #[] cb] w fun e w'=>e= .returned (.tuple #[])∧∃rs',rs'.Perm rs∧rs'.Pairwise (fun x y=> ¬ord y x<0)∧w'.ownsRow s0 155 9 v n (flat9 rs')∧w.grownBy w' v.ownBlock:=by
 by_cases h0:n=0
 ·subst h0
  have e0:rs= []:=List.eq_nil_of_length_eq_zero hn
  subst e0
  obtain⟨a,c,rfl⟩:=row9_form h
  refine(AnyF.slices_SortFunc_none Tryz.sortM a c _ w).mono ?_
  rintro e w' ⟨rfl,rfl⟩
  exact⟨rfl,[],List.Perm.refl _,List.Pairwise.nil,h,⟨rfl,rfl,rfl,Nat.le_refl _,fun _ _ _=>rfl⟩⟩
 rcases h.2 with⟨_,h1⟩|⟨g,cap,cur,rfl,e1,e2,e3,e4,e5,e6⟩
 ·exact absurd h1 h0
 have hne:rs≠ []:=fun e=>h0 (by rw[←hn,e];rfl)
 refine(sort9_n (cap:=cap) hn hne e2 e6 o_m eg (hl.on Subtype.val).swo hcmp).mono ?_
 rintro e w' ⟨rfl,rs',cur',p1,p2,p3,p4,p5,p6⟩
 refine⟨rfl,rs',p1,p2,⟨by rw[flat9_length,p1.length_eq,hn],.inr ⟨g,cap,cur',rfl,e1,p3,e3,e4,by rw[p4,e5],p5⟩⟩,p6⟩
theorem flat9_inj {w:World}{s0 n:Nat}{v:Value}{rs:List Mr}(h:w.ownsRow s0 155 9 v n (flat9 rs)):rs.length=n:=by
 have:=h.1
 rw[flat9_length]at this
 omega
theorem compact_none (w:World)(fv:Value):
  Calls Tryz.prog 155 #[.slice none 0 0,fv] w fun e w'=>e= .returned (.slice none 0 0)∧w'=w:=by
 go_enter Tryz.func155,Tryz.ntmps155
 go_wp2_with fail
 go_ret
 exact⟨rfl,rfl⟩
theorem compact_row {w:World}{s0 n K:Nat}{c1:Array Value}{v:Value}{rs:List Mr}{q:Mr→Mr→Bool}(h:w.ownsRow s0 155 9 v n (flat9 rs))(hn:rs.length=n)(hb:n≤1048000)
  (eg: ∀args w,(callFunc K args).run Tryz.prog w= .ok (.enter K args) w)
  (hq: ∀w' (x y:Mr),x∈rs→y∈rs→w.grownBy w' v.ownBlock→Calls Tryz.prog K (#[.agg (mE x.id x.x),.agg (mE y.id y.x)]++c1) w' fun e w''=>e= .returned (.bool (q x y))∧Below w'.heap.size w' w''):
  Calls Tryz.prog 155 #[v,.func (.func K) #[] c1] w fun e w'=> ∃v',e= .returned v'∧v'.ownBlock=v.ownBlock∧w'.ownsRow s0 155 9 v' (dd q rs).length (flat9 (dd q rs))∧w.grownBy w' v.ownBlock:=by
 rcases h.2 with⟨rfl,rfl⟩|⟨g,cap,cur,rfl,e1,e2,e3,e4,e5,e6⟩
 ·have e0:rs= []:=List.eq_nil_of_length_eq_zero hn
  subst e0
  refine(compact_none w _).mono ?_
  rintro e w' ⟨rfl,rfl⟩
  exact⟨_,rfl,rfl,h,⟨rfl,rfl,rfl,Nat.le_refl _,fun _ _ _=>rfl⟩⟩
 have hR:RB9 w g cap rs cur:=⟨e2,e5,by omega,by rw[hn];exact e6⟩
 refine(compact_n hR hn hb (lt_of_block e2) eg hq).mono ?_
 rintro e w' ⟨cur',rfl,hR',hg⟩
 exact⟨_,rfl,rfl,⟨by rw[flat9_length],.inr ⟨g,cap,cur',rfl,e1,hR'.b,hR'.l,e4,hR'.s,hR'.r⟩⟩,hg⟩
end Nt
namespace Nt
open Od

theorem gbo {w w1 w2:World}{o:Option Nat}(h:w.grownBy w1 o)(k:w1.grownBy w2 o):w.grownBy w2 o:=⟨k.os.trans h.os,k.tape.trans h.tape,k.output.trans h.output,Nat.le_trans h.size k.size,fun i hi hn=>(k.block i (Nat.lt_of_lt_of_le hi h.size) hn).trans (h.block i hi hn)⟩
def LwK (K:Nat)(sg:Int):Prop:=(K=49∧sg=1)∨(K=51∧sg= -1)
theorem stay1_any {w:World}{i j:Int}{x y:NR}{n m:Nd}{F G:Nat→Prop}{K:Nat}{sg:Int}{bl:Nat}{kd dual idle rul:Int}(hK:LwK K sg)(hL:LwB w bl kd dual idle rul K)(hx:NC F w x n 2097152)(h0:n.ps≠ [])(hy:NC G w y m 2097152)(h02:m.ps≠ []):
  Calls Tryz.prog 152 #[.agg (mE i x),.agg (mE j y),.pointer (some ⟨bl,0,none⟩)] w fun e w'=>e= .returned (.int .i64 (ordS sg n.ps n.k m.ps m.k))∧Gr w w':=by
 have h1:=hx.hnp
 rcases hK with⟨rfl,rfl⟩|⟨rfl,rfl⟩
 ·exact stay1A hL hx.pn.pn h0 hx.zk hy.pn.pn h02 hy.zk o_m o_m hx.hlk hy.hlk
 exact stay1O hL hx.pn.pn h0 hx.zk hy.pn.pn h02 hy.zk o_m o_m hx.hlk hy.hlk
theorem qS_of (x y:Mr):qS x y=(neg1 x.n.ps==neg1 y.n.ps&&ordL (lnP x.n.ps) (lnP y.n.ps)==0):=by
 unfold qS
 rw[Bool.eq_iff_iff,decide_eq_true_eq,Bool.and_eq_true,beq_iff_eq,beq_iff_eq]
 constructor
 ·intro e
  rw[e]
  exact⟨rfl,ordL_zero.2 rfl⟩
 rintro⟨e1,e2⟩
 exact ln_same (ordL_zero.1 e2) e1
structure Lie (w0 w:World) (s0:Nat) (rs:List Mr):Prop where
 ok: ∀m∈rs,m.ok w0 2097152
 k:Below w0.heap.size w0 w
 s:w0.heap.size≤s0
theorem Lie.at {w0 w w':World}{s0 n:Nat}{v:Value}{rs:List Mr}(h:Lie w0 w s0 rs)(hv:w.ownsRow s0 155 9 v n (flat9 rs))(g:w.grownBy w' v.ownBlock):Below w0.heap.size w0 w':=
 h.k.grown g h.k.size fun b hb=>Nat.le_trans h.s (hv.lt b hb).1
theorem staying_n {w0 w:World}{s0 n K:Nat}{sg:Int}{v:Value}{rs:List Mr}{kd dual idle rul:Int}(hK:LwK K sg)(h:w.ownsRow s0 155 9 v n (flat9 rs))(hb:n≤1048000)(hl:Lie w0 w s0 rs):
  Calls Tryz.prog 97 #[.agg (lwV kd dual idle rul K),v] w fun e w'=> ∃v' ls d,e= .returned v'∧ls.Perm rs∧Left9 sg ls d∧w'.ownsRow s0 155 9 v' d.length (flat9 d)∧v'.ownBlock=v.ownBlock∧w.grownBy w' v.ownBlock:=by
 obtain⟨av,cv,rfl⟩:=row9_form h
 have hn:=flat9_inj h
 have b0:=below_alloc w (.cells #[.int .i64 kd,.int .i64 dual,.int .i64 idle,.int .i64 rul,.func (.func K) #[] #[]] 94)
 have hL:LwB (w.alloc (.cells #[.int .i64 kd,.int .i64 dual,.int .i64 idle,.int .i64 rul,.func (.func K) #[] #[]] 94)) w.heap.size kd dual idle rul K:=heap_alloc_new w _
 have hr1:=own_below h b0
 have hne:(Value.slice av n cv).ownBlock≠some w.heap.size:=fun e=>by have:=(h.lt _ e).2;omega
 have g0:w.grownBy (w.alloc (.cells #[.int .i64 kd,.int .i64 dual,.int .i64 idle,.int .i64 rul,.func (.func K) #[] #[]] 94)) (Value.slice av n cv).ownBlock:=⟨b0.os,b0.tape,b0.output,b0.size,fun i hi _=>b0.block i hi⟩
 have hl1:Lie w0 (w.alloc (.cells #[.int .i64 kd,.int .i64 dual,.int .i64 idle,.int .i64 rul,.func (.func K) #[] #[]] 94)) s0 rs:=⟨hl.ok,hl.at h g0,hl.s⟩
 generalize hwe:w.alloc (.cells #[.int .i64 kd,.int .i64 dual,.int .i64 idle,.int .i64 rul,.func (.func K) #[] #[]] 94)=w1 at*
 have hkeepL: ∀w',w1.grownBy w' (Value.slice av n cv).ownBlock→LwB w' w.heap.size kd dual idle rul K:=fun w' g=>(g.block _ hL.lt (fun e=>hne e.symm)).trans hL
 have hsort:=hide (sort9_row (K:=152) (cb:=#[.pointer (some ⟨w.heap.size,0,none⟩)]) (ord:=fun x y=>ordS sg x.n.ps x.n.k y.n.ps y.n.k) hr1 hn hb (fun _ _=>by kernel_rfl) ((totS sg).on Mr.n) fun w' x y hx hy g=>stay1_any hK (hkeepL w' g) (NC.below (hl1.ok x hx).1 (hl1.at hr1 g)) (hl1.ok x hx).2 (NC.below (hl1.ok y hy).1 (hl1.at hr1 g)) (hl1.ok y hy).2)
 have hcomp:Hid (∀w2 ls,ls.Perm rs→w2.ownsRow s0 155 9 (.slice av n cv) n (flat9 ls)→w1.grownBy w2 (Value.slice av n cv).ownBlock→Calls Tryz.prog 155 #[.slice av n cv,.func (.func 156) #[] #[]] w2 fun e w'=> ∃v',e= .returned v'∧v'.ownBlock=(Value.slice av n cv).ownBlock∧w'.ownsRow s0 155 9 v' (dd qS ls).length (flat9 (dd qS ls))∧w2.grownBy w' (Value.slice av n cv).ownBlock):=hide fun w2 ls hp hr2 g2=>by
  have hl2:Lie w0 w2 s0 ls:=⟨fun m hm=>hl1.ok m (hp.mem_iff.1 hm),hl1.at hr1 g2,hl1.s⟩
  refine compact_row hr2 (by rw[hp.length_eq,hn]) hb (fun _ _=>by kernel_rfl) fun w' x y hx hy g=> ?_
  refine Calls.mono (stay2_g (NC.below (hl2.ok x hx).1 (hl2.at hr2 g)) (hl2.ok x hx).2 (NC.below (hl2.ok y hy).1 (hl2.at hr2 g)) (hl2.ok y hy).2 (Nat.le_refl _)) ?_
  rintro e w'' ⟨rfl,hg⟩
  exact⟨by rw[qS_of],hg.b⟩
 clear hl hl1 h hr1 hL hkeepL
 subst hwe
 replace g0:=hide g0
 simp only[lwV]
 go_enter Tryz.func97,Tryz.ntmps97
 go_wp2_with(go_at_call 151;refine hsort.out.mono ?_;rintro e w2 ⟨rfl,ls,p1,p2,p3,p4⟩)
 replace p1:=hide p1
 replace p2:=hide p2
 replace p4:=hide p4
 have hc2:=hide (hcomp.out w2 ls p1.out p3 p4.out)
 clear hsort hcomp p3 b0 hne
 go_wp2_with(go_at_call 155;refine hc2.out.mono ?_;rintro e w3 ⟨v',rfl,q1,q2,q3⟩)
 go_ret
 exact⟨v',ls,dd qS ls,rfl,p1.out,left9_dd (p2.out.imp fun{x y} e=>Int.not_lt.2 e),q2,q1,gbo g0.out (gbo p4.out q3)⟩

theorem clash1_any {w:World}{i j:Int}{x y:NR}{n m:Nd}{F G:Nat→Prop}{K:Nat}{sg:Int}{bl bo:Nat}{kd dual idle rul:Int}{so:Bool}{ao:Option Addr}{lo co:Nat}(hK:LwK K sg)(hL:LwB w bl kd dual idle rul K)(hO:ZB w bo so ao lo co)(ho:Zn w so ao lo co 1)(hlo:lo≤1)(hx:NC F w x n 2097152)(hy:NC G w y m 2097152):
  Calls Tryz.prog 158 #[.agg (mE i x),.agg (mE j y),.pointer (some ⟨bl,0,none⟩),.pointer (some ⟨bo,0,none⟩)] w fun e w'=>e= .returned (.bool (decide (cmpI (sg*(n.k+m.k)) (sg*1)≤0)))∧Below w.heap.size w w':=by
 rcases hK with⟨rfl,rfl⟩|⟨rfl,rfl⟩
 ·exact clashA hL hO ho hlo hx hy (Nat.le_refl _)
 exact clashO hL hO ho hlo hx hy (Nat.le_refl _)
theorem clash_n {w0 w:World}{s0 n K:Nat}{sg:Int}{v:Value}{rs:List Mr}{kd dual idle rul:Int}(hK:LwK K sg)(h:w.ownsRow s0 155 9 v n (flat9 rs))(hb:n≤1048000)(hl:Lie w0 w s0 rs):
  Calls Tryz.prog 98 #[.agg (lwV kd dual idle rul K),v] w fun e w'=> ∃b,e= .returned (.bool b)∧(b=true↔HP (fun x y=>ordL (lnP x.n.ps) (lnP y.n.ps)) (fun x y=>decide (cmpI (sg*(x.n.k+y.n.k)) (sg*1)≤0)) rs 0)∧Below w.heap.size w w':=by
 obtain⟨av,cv,rfl⟩:=row9_form h
 have hn:=flat9_inj h
 have b0:=below_alloc w (.cells #[.int .i64 kd,.int .i64 dual,.int .i64 idle,.int .i64 rul,.func (.func K) #[] #[]] 94)
 have hL:LwB (w.alloc (.cells #[.int .i64 kd,.int .i64 dual,.int .i64 idle,.int .i64 rul,.func (.func K) #[] #[]] 94)) w.heap.size kd dual idle rul K:=heap_alloc_new w _
 have hmain:Hid (∀w2 so ao lo co,Below w.heap.size w w2→LwB w2 w.heap.size kd dual idle rul K→Zn w2 so ao lo co 1→Calls Tryz.prog 157 #[.slice av n cv,.func (.func 153) #[] #[],.func (.func 158) #[] #[.pointer (some ⟨w.heap.size,0,none⟩),.pointer (some ⟨w2.heap.size,0,none⟩)]] (w2.alloc (.cells #[.bool so,.slice ao lo co] 45)) fun e w'=> ∃b,e= .returned (.bool b)∧(b=true↔HP (fun x y=>ordL (lnP x.n.ps) (lnP y.n.ps)) (fun x y=>decide (cmpI (sg*(x.n.k+y.n.k)) (sg*1)≤0)) rs 0)∧Below w.heap.size w w'):=hide fun w2 so ao lo co k2 hL2 hz=>by
  have b3:=below_alloc w2 (.cells #[.bool so,.slice ao lo co] 45)
  have hO:ZB (w2.alloc (.cells #[.bool so,.slice ao lo co] 45)) w2.heap.size so ao lo co:=heap_alloc_new w2 _
  have hlo:lo≤1:=by rw[zn_limb hz,lim_1];exact Nat.le_refl _
  have hz3:=hz.below b3
  have hL3:=hL2.below b3
  have k3:=grow_step b3 k2
  generalize w2.alloc (.cells #[.bool so,.slice ao lo co] 45)=w3 at*
  have hr3:=own_below h k3
  have hnc: ∀w' (x:Mr),x∈rs→Below w3.heap.size w3 w'→NC (fun _=>True) w' x.x x.n 2097152∧x.n.ps≠ []:=fun w' x hx k'=>⟨NC.below (hl.ok x hx).1 (grow_step (grow_step k' k3) hl.k),(hl.ok x hx).2⟩
  refine(hasPair_n (ord:=fun x y=>ordL (lnP x.n.ps) (lnP y.n.ps)) (mat:=fun x y=>decide (cmpI (sg*(x.n.k+y.n.k)) (sg*1)≤0)) hr3 hn hb (fun _ _=>by kernel_rfl) (fun _ _=>by kernel_rfl) (fun w' x y hx hy k'=> ?_) (fun w' x y hx hy k'=> ?_)).mono ?_
  ·obtain⟨n1,n2⟩:=hnc w' x hx k'
   obtain⟨n3,n4⟩:=hnc w' y hy k'
   have h1:=n1.hnp
   refine Calls.mono (lines_g n1.pn.pn n2 n3.pn.pn n4 o_m o_m) ?_
   rintro e w'' ⟨rfl,hg⟩
   exact⟨rfl,hg.b⟩
  ·obtain⟨n1,n2⟩:=hnc w' x hx k'
   obtain⟨n3,n4⟩:=hnc w' y hy k'
   exact clash1_any hK (hL3.below k') ((k'.block _ hO.lt).trans hO) (hz3.below k') hlo n1 n3
  rintro e w' ⟨b,rfl,q1,q2⟩
  exact⟨b,rfl,q1,grow_step q2 k3⟩
 simp only[lwV]
 go_enter Tryz.func98,Tryz.ntmps98
 go_wp2_with(go_at_call 59;refine Calls.mono (zof_n 1 (by decide) (by decide) _) ?_;rintro e w2 ⟨so,ao,lo,co,rfl,hz,k2,-⟩)
 have hc:=hide (hmain.out w2 so ao lo co (grow_step k2 b0) (hL.below k2) hz)
 clear hmain hz k2 hL b0 h hl
 go_wp2_with(go_at_call 157;refine hc.out.mono ?_;rintro e w3 ⟨b,rfl,q1,q2⟩)
 go_ret
 exact⟨b,rfl,q1,q2⟩
def OpR (w w':World)(e:Ending)(s0 n:Nat)(v:Value)(rs:List Mr):Prop:=
 ∃b ls,e= .returned (.bool b)∧ls.Perm rs∧ls.Pairwise (fun x y=> ¬ordD y.n x.n<0)∧(b=true↔HP (fun x y=>ordD x.n y.n) (fun x y=> !(x.n.kind==y.n.kind)) ls 0)∧w'.ownsRow s0 155 9 v n (flat9 ls)∧w.grownBy w' v.ownBlock
theorem opposed_n {w0 w:World}{s0 n:Nat}{v:Value}{rs:List Mr}(h:w.ownsRow s0 155 9 v n (flat9 rs))(hb:n≤1048000)(hl:Lie w0 w s0 rs):
  Calls Tryz.prog 99 #[v] w fun e w'=>OpR w w' e s0 n v rs:=by
 obtain⟨av,cv,rfl⟩:=row9_form h
 have hn:=flat9_inj h
 have hsort:=hide (sort9_row (K:=159) (cb:=#[]) (ord:=fun x y=>ordD x.n y.n) h hn hb (fun _ _=>by kernel_rfl) (totD.on Mr.n) fun w' x y hx hy g=>divs_g (NC.below (hl.ok x hx).1 (hl.at h g)) (hl.ok x hx).2 (NC.below (hl.ok y hy).1 (hl.at h g)) (hl.ok y hy).2 (Nat.le_refl _))
 have hpair:Hid (∀w2 ls,ls.Perm rs→w2.ownsRow s0 155 9 (.slice av n cv) n (flat9 ls)→w.grownBy w2 (Value.slice av n cv).ownBlock→Calls Tryz.prog 157 #[.slice av n cv,.func (.func 159) #[] #[],.func (.func 160) #[] #[]] w2 fun e w'=> ∃b,e= .returned (.bool b)∧(b=true↔HP (fun x y=>ordD x.n y.n) (fun x y=> !(x.n.kind==y.n.kind)) ls 0)∧Below w2.heap.size w2 w'):=hide fun w2 ls hp hr2 g2=>by
  have hnc: ∀w' (x:Mr),x∈ls→Below w2.heap.size w2 w'→NC (fun _=>True) w' x.x x.n 2097152∧x.n.ps≠ []:=fun w' x hx k'=>by
   have hx':=hp.mem_iff.1 hx
   exact⟨NC.below (hl.ok x hx').1 (grow_step k' (hl.at h g2)),(hl.ok x hx').2⟩
  refine hasPair_n (ord:=fun x y=>ordD x.n y.n) (mat:=fun x y=> !(x.n.kind==y.n.kind)) hr2 (by rw[hp.length_eq,hn]) hb (fun _ _=>by kernel_rfl) (fun _ _=>by kernel_rfl) (fun w' x y hx hy k'=> ?_) (fun w' x y hx hy k'=> ?_)
  ·obtain⟨n1,n2⟩:=hnc w' x hx k'
   obtain⟨n3,n4⟩:=hnc w' y hy k'
   refine Calls.mono (divs_g n1 n2 n3 n4 (Nat.le_refl _)) ?_
   rintro e w'' ⟨rfl,hg⟩
   exact⟨rfl,hg.b⟩
  obtain⟨n1,n2⟩:=hnc w' x hx k'
  obtain⟨n3,n4⟩:=hnc w' y hy k'
  refine Calls.mono (kinds_g n1 n3) ?_
  rintro e w'' ⟨rfl,hg⟩
  exact⟨rfl,hg.b⟩
 clear hl h
 go_enter Tryz.func99,Tryz.ntmps99
 go_wp2_with(go_at_call 151;refine hsort.out.mono ?_;rintro e w2 ⟨rfl,ls,p1,p2,p3,p4⟩)
 replace p1:=hide p1
 replace p2:=hide p2
 replace p4:=hide p4
 have hc2:=hide (hpair.out w2 ls p1.out p3 p4.out)
 replace p3:=hide p3
 clear hsort hpair
 go_wp2_with(go_at_call 157;refine hc2.out.mono ?_;rintro e w3 ⟨b,rfl,q1,q2⟩)
 go_ret
 exact⟨b,ls,rfl,p1.out,p2.out.imp fun{x y} e=>Int.not_lt.2 e,q1,own_below p3.out q2,gb_below p4.out q2⟩
end Nt
namespace Nt

theorem il_one {w:World}{g:Nat}{z:Int}{t:TypeId}{f:Nat × Nat}(h:w.heap[g]? =some (.cells #[.int .i64 z] t f))(hz:I64 z):IL w (some ⟨g,0,none⟩) 1 [z]:=
 ⟨rfl,.inr ⟨g,0,rfl,lt_of_block h,fun i hi=>by
  have:i=0:=by simpa using hi
  subst this
  exact⟨cell_of_row w g 0 _ _ _ h,hz⟩⟩⟩
theorem own_form {w:World}{base n:Nat}{e:TypeId}{v:Value}{xs:List Value}(h:w.ownsRow base e 1 v n xs): ∃a c,v= .slice a n c:=by
 rcases Joins.ownsRow_forms h with⟨h1,h2⟩|⟨g1,cap1,h1⟩
 ·exact⟨none,0,by rw[h1,h2]⟩
 exact⟨_,cap1,h1⟩
theorem sortI_grown (w:World)(g q:Nat)(d:Array Int)(os:Array Obj):w.grownBy (grow (putRow (Value.int .i64) (Sort.ahead w q) g 0 d) os) (some g):=by
 refine⟨rfl,rfl,rfl,?_,fun k hk hne=> ?_⟩
 ·simp[grow,putRow,mapBlock,Sort.ahead]
 have hkg:k≠g:=fun e=>hne (by rw[e])
 simp only[grow,putRow,mapBlock,Sort.ahead]
 rw[Array.getElem?_append_left (by simpa using hk),Array.getElem?_modify,if_neg (fun e=>hkg e.symm)]
theorem sortI_row {w:World}{base n:Nat}{v:Value}{l:List Int}(h:w.ownsRow base 3 1 v n (l.map (Value.int .i64)))(hn:l.length=n)(hb:n≤4194304):
  Calls Tryz.prog 131 #[v] w fun e w'=>e= .returned (.tuple #[])∧∃l':List Int,l'.Perm l∧l'.Pairwise (·≤·)∧w'.ownsRow base 3 1 v n (l'.map (Value.int .i64))∧w.grownBy w' v.ownBlock:=by
 by_cases h0:n=0
 ·subst h0
  have e0:l= []:=List.eq_nil_of_length_eq_zero hn
  subst e0
  obtain⟨a,c,rfl⟩:=own_form h
  refine(Tryz.slices_Sort_int_none a c w).mono ?_
  rintro e w' ⟨rfl,rfl⟩
  exact⟨rfl,[],List.Perm.refl _,List.Pairwise.nil,h,⟨rfl,rfl,rfl,Nat.le_refl _,fun _ _ _=>rfl⟩⟩
 subst hn
 obtain⟨g,cap,rfl,hg1,hg2,hcap,hmax,-,hH⟩:=Lib.holds_of_ownsRow h (fun e=>h0 (by obtain⟨a,c,e2⟩:=own_form h;rw[e]at e2;injection e2 with _ e3 _;exact e3.symm))
 refine(Tryz.slices_Sort_int g 0 cap l w hH hg2 o_m).mono ?_
 rintro e w2 ⟨rfl,q,os,rfl⟩
 have hsl:(l.mergeSort fun x y=>decide (x≤y)).length=l.length:=List.length_mergeSort _
 have r2:=Lib.ownsRow_putRow (q:=q) h hsl (Nat.le_refl _)
 rw[List.take_of_length_le (Nat.le_of_eq hsl)]at r2
 have r3:=Lib.ownsRow_grow r2 0 os
 exact⟨rfl,_,List.mergeSort_perm _ _,sort_le l,r3,sortI_grown w g q _ os⟩
structure Nd1 (w wr:World) (ba:Nat) (v:Value) (l:List Int):Prop where
 b:SlB wr ba v
 r:wr.ownsRow (ba+1) 3 1 v l.length (l.map (Value.int .i64))
 ge:w.heap.size≤ba
 k:Below w.heap.size w wr
theorem needed_n {w:World}{s0 n K:Nat}{v:Value}{rs:List Mr}{kd dual idle rul:Int}(h:w.ownsRow s0 155 9 v n (flat9 rs))(hb:n≤1048000)(hl: ∀m∈rs,NC (fun _=>True) w m.x m.n 2097152∧I64 m.id):
  Calls Tryz.prog 100 #[.agg (lwV kd dual idle rul K),v] w fun e w'=> ∃a c all,e= .returned (.slice a ((rs.filter (ndd dual all)).map Mr.id).length c)∧IL w' a ((rs.filter (ndd dual all)).map Mr.id).length ((rs.filter (ndd dual all)).map Mr.id)∧(∀x,x∈all↔x∈rs.map Mr.id)∧Below w.heap.size w w':=by
 obtain⟨av,cv,rfl⟩:=row9_form h
 have hn:=flat9_inj h
 simp only[lwV]
 go_enter Tryz.func100,Tryz.ntmps100
 go_wp2_with fail
 have hL:Hid (LwB ((w.alloc (.cells #[.int .i64 kd,.int .i64 dual,.int .i64 idle,.int .i64 rul,.func (.func K) #[] #[]] 94)).alloc (.cells #[.slice none 0 0] 23)) w.heap.size kd dual idle rul K):=hide (LwB.below (heap_alloc_new w _) (below_alloc _ _))
 have hS0:Hid (Nd1 w ((w.alloc (.cells #[.int .i64 kd,.int .i64 dual,.int .i64 idle,.int .i64 rul,.func (.func K) #[] #[]] 94)).alloc (.cells #[.slice none 0 0] 23)) (w.heap.size+1) (.slice none 0 0) []):=hide ⟨by
  have h1:SlB ((w.alloc (.cells #[.int .i64 kd,.int .i64 dual,.int .i64 idle,.int .i64 rul,.func (.func K) #[] #[]] 94)).alloc (.cells #[.slice none 0 0] 23)) (w.alloc (.cells #[.int .i64 kd,.int .i64 dual,.int .i64 idle,.int .i64 rul,.func (.func K) #[] #[]] 94)).heap.size (.slice none 0 0):=heap_alloc_new _ _
  rw[show(w.alloc (.cells #[.int .i64 kd,.int .i64 dual,.int .i64 idle,.int .i64 rul,.func (.func K) #[] #[]] 94)).heap.size=w.heap.size+1 by simp]at h1
  exact h1,World.ownsRow_nil _ _ _ _,by omega,below_alloc' (below_alloc w _) _⟩
 generalize (w.alloc (.cells #[.int .i64 kd,.int .i64 dual,.int .i64 idle,.int .i64 rul,.func (.func K) #[] #[]] 94)).alloc (.cells #[.slice none 0 0] 23)=w2 at*
 go_loopw [14] (fun q wr=> ∃(t:Nat) (v:Value),t≤n∧q= .int .i64 t∧Hid (Nd1 w wr (w.heap.size+1) v ((rs.take t).map Mr.id))∧Hid (LwB wr w.heap.size kd dual idle rul K)) (fun q _=>n-(intOf q).toNat)
 case atStart=>exact⟨0,_,Nat.zero_le _,rfl,hide (by simpa using hS0.out),hL⟩
 case round=>
  obtain⟨t,v,ht,rfl,hN,hL1⟩:=hrel
  clear hL hS0
  by_cases htn:t<n
  ·obtain⟨g,cap,hsl,hgl,hcell⟩:=row9_cell (own_below h hN.out.k) hn htn
   injection hsl with ea eb ec
   subst ea ec
   clear eb
   have hid:I64 (rs[t]'o_m).id:=(hl _ (List.getElem_mem _)).2
   have htk:Hid ((rs.take (t+1)).map Mr.id=(rs.take t).map Mr.id++ [(rs[t]'o_m).id]):=hide (by rw[List.take_succ_eq_append_getElem o_m,List.map_append];rfl)
   have e0:=hcell 0 (by decide)
   have e1:=hcell 1 (by decide)
   have e2:=hcell 2 (by decide)
   have e3:=hcell 3 (by decide)
   have e4:=hcell 4 (by decide)
   have e5:=hcell 5 (by decide)
   have e6:=hcell 6 (by decide)
   have e7:=hcell 7 (by decide)
   have e8:=hcell 8 (by decide)
   clear hcell
   generalize rs[t]'o_m=m at*
   obtain⟨i,⟨kd0,sd0,ad0,ld0,cd0,ap0,np0,cp0,sk0,ak0,lk0,ck0,vr0,ka0,kn0,kc0⟩,nd⟩:=m
   dsimp only at hid htk
   simp only[Mr.enc,mE,Nat.add_zero,List.getElem?_cons_zero,List.getElem?_cons_succ]at e0 e1 e2 e3 e4 e5 e6 e7 e8
   have hlen:((rs.take t).map Mr.id).length=t:=by rw[List.length_map,List.length_take];omega
   have hr:=hN.out.r
   rw[hlen]at hr
   obtain⟨a1,c1,rfl⟩:=own_form hr
   have ub:=hN.out.b.c0
   have hbl:=hN.out.b.lt
   have hge:=hN.out.ge
   have hks:=hN.out.k.size
   have b1:=below_alloc' (below_alloc wr (.cells #[.int .i64 i,.int .i64 kd0,.bool sd0,.slice ad0 ld0 cd0,.slice ap0 np0 cp0,.bool sk0,.slice ak0 lk0 ck0,.int .i64 vr0,.slice ka0 kn0 kc0] 155)) (.cells #[.int .i64 i] 3)
   have hI:Hid (IL ((wr.alloc (.cells #[.int .i64 i,.int .i64 kd0,.bool sd0,.slice ad0 ld0 cd0,.slice ap0 np0 cp0,.bool sk0,.slice ak0 lk0 ck0,.int .i64 vr0,.slice ka0 kn0 kc0] 155)).alloc (.cells #[.int .i64 i] 3)) (some ⟨wr.heap.size+1,0,none⟩) 1 [i]):=hide (by
    have h1:=heap_alloc_new (wr.alloc (.cells #[.int .i64 i,.int .i64 kd0,.bool sd0,.slice ad0 ld0 cd0,.slice ap0 np0 cp0,.bool sk0,.slice ak0 lk0 ck0,.int .i64 vr0,.slice ka0 kn0 kc0] 155)) (.cells #[.int .i64 i] 3)
    rw[show(wr.alloc (.cells #[.int .i64 i,.int .i64 kd0,.bool sd0,.slice ad0 ld0 cd0,.slice ap0 np0 cp0,.bool sk0,.slice ak0 lk0 ck0,.int .i64 vr0,.slice ka0 kn0 kc0] 155)).heap.size=wr.heap.size+1 by simp]at h1
    exact il_one h1 hid)
   have hown:=hide (own_below hr b1)
   have hstep:Hid (∀v' w',World.ownsRow w' (w.heap.size+1+1) 3 1 v' (t+1) (((rs.take t).map Mr.id++ [i]).map (Value.int .i64))→World.grownBy ((wr.alloc (.cells #[.int .i64 i,.int .i64 kd0,.bool sd0,.slice ad0 ld0 cd0,.slice ap0 np0 cp0,.bool sk0,.slice ak0 lk0 ck0,.int .i64 vr0,.slice ka0 kn0 kc0] 155)).alloc (.cells #[.int .i64 i] 3)) w' (Value.slice a1 t c1).ownBlock→
     SlB w' (w.heap.size+1) (.slice a1 t c1)∧Nd1 w (w'.setCell ⟨w.heap.size+1,0,none⟩ v') (w.heap.size+1) v' ((rs.take (t+1)).map Mr.id)∧LwB (w'.setCell ⟨w.heap.size+1,0,none⟩ v') w.heap.size kd dual idle rul K):=hide fun v' w' ho hg=>by
    have hS1:=hN.out.b.below b1
    have hL2:=hL1.out.below b1
    have hk2:=grow_step b1 hN.out.k
    have hs2:=b1.size
    have hne: ∀b,b≤w.heap.size+1→some b≠(Value.slice a1 t c1).ownBlock:=fun b hb e=>by have:=(hr.lt b e.symm).1;omega
    generalize (wr.alloc (.cells #[.int .i64 i,.int .i64 kd0,.bool sd0,.slice ad0 ld0 cd0,.slice ap0 np0 cp0,.bool sk0,.slice ak0 lk0 ck0,.int .i64 vr0,.slice ka0 kn0 kc0] 155)).alloc (.cells #[.int .i64 i] 3)=wb at*
    have hS2:SlB w' (w.heap.size+1) (.slice a1 t c1):=(hg.block _ hS1.lt (hne _ (Nat.le_refl _))).trans hS1
    have hL3:LwB w' w.heap.size kd dual idle rul K:=(hg.block _ hL2.lt (hne _ o_m)).trans hL2
    have hk3:Below w.heap.size w w':=hk2.grown hg hk2.size fun b hb=>by have:=(hown.out.lt b hb).1;omega
    have hv'ne:v'.ownBlock≠some (w.heap.size+1):=fun e=>by have:=(ho.lt _ e).1;omega
    refine⟨hS2,⟨heap_setCell_same _ _ _ _ _ _ hS2,?_,by omega,hk3.setCell (by show w.heap.size≤w.heap.size+1;omega) _⟩,?_⟩
    ·rw[htk.out,List.length_append,hlen]
     exact ho.kept (gb_set _ _ _ _) (.inr hv'ne)
    exact((gb_set w' (w.heap.size+1) 0 v').block _ hL3.lt (by simp)).trans hL3
   clear hr hN hL1 hlen hid
   go_wp2_with(at_builtin;refine app_ii rfl _ _ rfl (w.heap.size+1+1) _ _ _ rfl hown.out (some ⟨wr.heap.size+1,0,none⟩) 1 1 [i] rfl (by decide) hI.out o_m (by have:=b1.size;omega) ?_;intro v' w' ho hg _;obtain⟨a2,c2,rfl⟩:=own_form ho;have s1:=hstep.out _ _ ho hg;have us:=s1.1.c0;have uf:=frozen_of_row w' (w.heap.size+1) 0 _ _ s1.1;replace s1:=hide s1.2;clear hstep ho hg hown hI)
   exact⟨⟨t+1,_,by omega,by go_num,hide s1.out.1,hide s1.out.2⟩,by simp[intOf];omega⟩
  obtain rfl:t=n:=by omega
  have hN1:=hN.out
  rw[List.take_of_length_le (Nat.le_of_eq hn)]at hN1
  have hr:=hN1.r
  rw[List.length_map,hn]at hr
  obtain⟨a1,c1,rfl⟩:=own_form hr
  have hne: ∀b,b≤w.heap.size+1→some b≠(Value.slice a1 t c1).ownBlock:=fun b hb e=>by have:=(hr.lt b e.symm).1;omega
  have hsort:=hide (sortI_row hr (by rw[List.length_map,hn]) o_m)
  have hafter:Hid (∀w3 (l':List Int),l'.Perm (rs.map Mr.id)→w3.ownsRow (w.heap.size+1+1) 3 1 (.slice a1 t c1) t (l'.map (Value.int .i64))→wr.grownBy w3 (Value.slice a1 t c1).ownBlock→SlB w3 (w.heap.size+1) (.slice a1 t c1)∧LwB w3 w.heap.size kd dual idle rul K∧Below w.heap.size w w3∧IL w3 a1 t l'):=hide fun w3 l' hp hr3 hg=>by
   refine⟨(hg.block _ hN1.b.lt (hne _ (Nat.le_refl _))).trans hN1.b,(hg.block _ hL1.out.lt (hne _ o_m)).trans hL1.out,hN1.k.grown hg hN1.k.size fun b hb=>by have:=(hr.lt b hb).1;omega,?_⟩
   obtain⟨a,c,e,h1,_⟩:=row_il hr3 fun x hx=>by
    obtain⟨m,hm,rfl⟩:=List.mem_map.1 (hp.mem_iff.1 hx)
    exact(hl m hm).2
   cases e
   exact h1
  have ub:=hN1.b.c0
  clear hN hL1 hN1 hr hne
  go_wp2_with(go_at_call 131;refine hsort.out.mono ?_;rintro e w3 ⟨rfl,all,p1,p2,p3,p4⟩;have s1:=hide (hafter.out w3 all p1 p3 p4);replace p1:=hide p1;replace p2:=hide p2;clear hsort hafter p3 p4 ub)
  have hall:Hid (∀x,x∈all↔x∈rs.map Mr.id):=hide fun x=>p1.out.mem_iff
  have hlen:=p1.out.length_eq
  rw[List.length_map,hn]at hlen
  have hr9:=hide (own_below h s1.out.2.2.1)
  have hl9:Hid (∀m∈rs,NC (fun _=>True) w3 m.x m.n 2097152∧I64 m.id):=hide fun m hm=>⟨NC.below (hl m hm).1 s1.out.2.2.1,(hl m hm).2⟩
  clear h hl p1
  go_loopw [6,29] (fun v2 q wr=> ∃(s:Nat),s≤t∧q= .int .i64 s∧Hid (wr.ownsRow w3.heap.size 3 1 v2 (((rs.take s).filter (ndd dual all)).map Mr.id).length ((((rs.take s).filter (ndd dual all)).map Mr.id).map (Value.int .i64)))∧Hid (Below w3.heap.size w3 wr)) (fun _ q _=>t-(intOf q).toNat)
  case atStart=>exact⟨0,Nat.zero_le _,rfl,hide (World.ownsRow_nil _ _ _ _),hide (Below.refl _ _)⟩
  case round=>
   obtain⟨s,hs,rfl,hO,kr⟩:=hrel
   by_cases hst:s<t
   ·obtain⟨g,cap,hsl,hgl,hcell⟩:=row9_cell (own_below hr9.out kr.out) hn hst
    injection hsl with ea eb ec
    subst ea ec
    clear eb
    have hmm:(rs[s]'o_m)∈rs:=List.getElem_mem _
    have hid:=hl9.out _ hmm
    have htk:Hid ((rs.take (s+1)).filter (ndd dual all)=(rs.take s).filter (ndd dual all)++ [rs[s]'o_m].filter (ndd dual all)):=hide (by rw[List.take_succ_eq_append_getElem o_m,List.filter_append])
    have e0:=hcell 0 (by decide)
    have e1:=hcell 1 (by decide)
    have e2:=hcell 2 (by decide)
    have e3:=hcell 3 (by decide)
    have e4:=hcell 4 (by decide)
    have e5:=hcell 5 (by decide)
    have e6:=hcell 6 (by decide)
    have e7:=hcell 7 (by decide)
    have e8:=hcell 8 (by decide)
    clear hcell hmm
    generalize rs[s]'o_m=m at*
    have hkn:=hid.1.kd
    have hki:=hid.1.kids
    have hkl:=hid.1.hkn
    replace hid:=hid.2
    obtain⟨i,⟨kd0,sd0,ad0,ld0,cd0,ap0,np0,cp0,sk0,ak0,lk0,ck0,vr0,ka0,kn0,kc0⟩,nd⟩:=m
    dsimp only at hid hkn hki hkl
    obtain rfl:kn0=nd.kids.length:=hki.1.symm
    simp only[Mr.enc,mE,Nat.add_zero,List.getElem?_cons_zero,List.getElem?_cons_succ]at e0 e1 e2 e3 e4 e5 e6 e7 e8
    have hlen2:(((rs.take s).filter (ndd dual all)).map Mr.id).length≤s:=by
     rw[List.length_map]
     exact Nat.le_trans (List.length_filter_le _ _) (by rw[List.length_take];omega)
    obtain⟨a4,c4,rfl⟩:=own_form hO.out
    have b1:=below_alloc wr (.cells #[.int .i64 i,.int .i64 kd0,.bool sd0,.slice ad0 ld0 cd0,.slice ap0 np0 cp0,.bool sk0,.slice ak0 lk0 ck0,.int .i64 vr0,.slice ka0 nd.kids.length kc0] 155)
    have hL2:=s1.out.2.1.below (grow_step b1 kr.out)
    have ul:=(s1.out.2.1.below kr.out).c1
    have hll:=(s1.out.2.1.below kr.out).lt
    have hcont:=hide (containsF_n (K:=161) (cb:=#[.pointer (some ⟨w.heap.size+1,0,none⟩)]) (kc:=kc0) (q:=fun z=>decide (z∈all)) (hki.below (grow_step b1 kr.out)) o_m (fun _ _=>by kernel_rfl) fun w' z _ k'=>by
     have kk:=grow_step k' (grow_step b1 kr.out)
     have h1:=s1.out.1.below kk
     have h2:=s1.out.2.2.2.below kk
     rw[←hlen]at h1 h2
     exact isThere_n h1 h2 p2.out o_m)
    have hstep:Hid (∀wm,Below wr.heap.size wr wm→ndd dual all ⟨i,⟨kd0,sd0,ad0,ld0,cd0,ap0,np0,cp0,sk0,ak0,lk0,ck0,vr0,ka0,nd.kids.length,kc0⟩,nd⟩=true→∀v' w',World.ownsRow w' w3.heap.size 3 1 v' ((((rs.take s).filter (ndd dual all)).map Mr.id).length+1) ((((rs.take s).filter (ndd dual all)).map Mr.id++ [i]).map (Value.int .i64))→World.grownBy wm w' (Value.slice a4 (((rs.take s).filter (ndd dual all)).map Mr.id).length c4).ownBlock→World.ownsRow w' w3.heap.size 3 1 v' (((rs.take (s+1)).filter (ndd dual all)).map Mr.id).length ((((rs.take (s+1)).filter (ndd dual all)).map Mr.id).map (Value.int .i64))∧Below w3.heap.size w3 w'):=hide fun wm km hq v' w' ho hg=>by
     have e:((rs.take (s+1)).filter (ndd dual all)).map Mr.id=((rs.take s).filter (ndd dual all)).map Mr.id++ [i]:=by
      rw[htk.out,List.filter_cons_of_pos hq,List.filter_nil,List.map_append]
      rfl
     rw[e]
     refine⟨by rw[List.length_append];exact ho,?_⟩
     have k2:=grow_step km kr.out
     exact k2.grown hg k2.size fun b hb=>(hO.out.lt b hb).1
    have hskip:Hid (∀wm,Below wr.heap.size wr wm→ndd dual all ⟨i,⟨kd0,sd0,ad0,ld0,cd0,ap0,np0,cp0,sk0,ak0,lk0,ck0,vr0,ka0,nd.kids.length,kc0⟩,nd⟩=false→World.ownsRow wm w3.heap.size 3 1 (.slice a4 (((rs.take s).filter (ndd dual all)).map Mr.id).length c4) (((rs.take (s+1)).filter (ndd dual all)).map Mr.id).length ((((rs.take (s+1)).filter (ndd dual all)).map Mr.id).map (Value.int .i64))∧Below w3.heap.size w3 wm):=hide fun wm km hq=>by
     rw[htk.out,List.filter_cons_of_neg (by rw[hq];simp),List.filter_nil,List.append_nil]
     exact⟨own_below hO.out km,grow_step km kr.out⟩
    have hks:=kr.out.size
    clear htk hr9 hl9 s1 p2 hall
    subst hkn
    generalize ((rs.take s).filter (ndd dual all)).map Mr.id=fl at*
    have hfz:Hid (∀wm,Below wr.heap.size wr wm→IL (wm.alloc (.cells #[.int .i64 i] 3)) (some ⟨wm.heap.size,0,none⟩) 1 [i]∧Below wr.heap.size wr (wm.alloc (.cells #[.int .i64 i] 3))∧World.ownsRow (wm.alloc (.cells #[.int .i64 i] 3)) w3.heap.size 3 1 (.slice a4 fl.length c4) fl.length (fl.map (Value.int .i64))):=hide fun wm km=>⟨il_one (heap_alloc_new wm _) hid,below_alloc' km _,own_below hO.out (below_alloc' km _)⟩
    have ewm:(wr.alloc (.cells #[.int .i64 i,.int .i64 nd.kind,.bool sd0,.slice ad0 ld0 cd0,.slice ap0 np0 cp0,.bool sk0,.slice ak0 lk0 ck0,.int .i64 vr0,.slice ka0 nd.kids.length kc0] 155)).heap.size=wr.heap.size+1:=by simp
    have hM:Hid (∀w5,Below (wr.alloc (.cells #[.int .i64 i,.int .i64 nd.kind,.bool sd0,.slice ad0 ld0 cd0,.slice ap0 np0 cp0,.bool sk0,.slice ak0 lk0 ck0,.int .i64 vr0,.slice ka0 nd.kids.length kc0] 155)).heap.size (wr.alloc (.cells #[.int .i64 i,.int .i64 nd.kind,.bool sd0,.slice ad0 ld0 cd0,.slice ap0 np0 cp0,.bool sk0,.slice ak0 lk0 ck0,.int .i64 vr0,.slice ka0 nd.kids.length kc0] 155)) w5→w5.cell? ⟨wr.heap.size,0,none⟩=some (.int .i64 i)∧Below wr.heap.size wr w5):=hide fun w5 k5=>⟨(M9B.below (show M9B (wr.alloc (.cells #[.int .i64 i,.int .i64 nd.kind,.bool sd0,.slice ad0 ld0 cd0,.slice ap0 np0 cp0,.bool sk0,.slice ak0 lk0 ck0,.int .i64 vr0,.slice ka0 nd.kids.length kc0] 155)) wr.heap.size i ⟨nd.kind,sd0,ad0,ld0,cd0,ap0,np0,cp0,sk0,ak0,lk0,ck0,vr0,ka0,nd.kids.length,kc0⟩ from heap_alloc_new wr _) k5).c 0,grow_step k5 b1⟩
    clear hO kr hki hid
    by_cases hkd:nd.kind=dual
    ·subst hkd
     cases hany:nd.kids.any fun z=>decide (z∈all)with
     |true=>
      have hnd:Hid (ndd nd.kind all ⟨i,⟨nd.kind,sd0,ad0,ld0,cd0,ap0,np0,cp0,sk0,ak0,lk0,ck0,vr0,ka0,nd.kids.length,kc0⟩,nd⟩=false):=hide (by unfold ndd;rw[hany];simp)
      rw[hany]at hcont
      clear hfz hstep b1 hany hkl
      go_wp2_with(go_at_call 53;refine hcont.out.mono ?_;rintro e w5 ⟨rfl,k5⟩;have s5:=hide (hskip.out w5 (hM.out w5 k5).2 hnd.out);clear hcont hskip hM k5)
      exact⟨⟨s+1,by omega,by go_num,hide s5.out.1,hide s5.out.2⟩,by simp[intOf];omega⟩
     |false=>
      have hnd:Hid (ndd nd.kind all ⟨i,⟨nd.kind,sd0,ad0,ld0,cd0,ap0,np0,cp0,sk0,ak0,lk0,ck0,vr0,ka0,nd.kids.length,kc0⟩,nd⟩=true):=hide (by unfold ndd;rw[hany];simp)
      rw[hany]at hcont
      clear hskip b1 hany hkl
      go_wp2_with(first|(go_at_call 53;refine hcont.out.mono ?_;rintro e w5 ⟨rfl,k5⟩;have h6:=hM.out w5 k5;have um:=h6.1;have h9:=hfz.out w5 h6.2;have hI:=hide h9.1;have bb:=hide h9.2.1;have hown:=hide h9.2.2;have hsm:=h6.2.size;clear hcont hfz hM k5 h6 h9)|(at_builtin;refine app_ii rfl _ _ rfl w3.heap.size _ _ _ rfl hown.out (some ⟨w5.heap.size,0,none⟩) 1 1 [i] rfl (by decide) hI.out (by omega) (by have:=bb.out.size;omega) ?_;intro v' w' ho hg _;obtain⟨a2,c2,rfl⟩:=own_form ho;have s5:=hide (hstep.out _ bb.out hnd.out _ _ ho hg);clear hstep ho hg hown hI))
      exact⟨⟨s+1,by omega,by go_num,hide s5.out.1,hide s5.out.2⟩,by simp[intOf];omega⟩
    have h9:=hfz.out _ b1
    rw[ewm]at h9
    have hI:=hide h9.1
    have bb:=hide h9.2.1
    have hown:=hide h9.2.2
    have hnd:Hid (ndd dual all ⟨i,⟨nd.kind,sd0,ad0,ld0,cd0,ap0,np0,cp0,sk0,ak0,lk0,ck0,vr0,ka0,nd.kids.length,kc0⟩,nd⟩=true):=hide (by unfold ndd;simp[hkd])
    clear hcont hfz h9 hskip b1 ewm hM
    go_wp2_with(at_builtin;refine app_ii rfl _ _ rfl w3.heap.size _ _ _ rfl hown.out (some ⟨wr.heap.size+1,0,none⟩) 1 1 [i] rfl (by decide) hI.out o_m (by have:=bb.out.size;omega) ?_;intro v' w' ho hg _;obtain⟨a2,c2,rfl⟩:=own_form ho;have s5:=hide (hstep.out _ bb.out hnd.out _ _ ho hg);clear hstep ho hg hown hI)
    exact⟨⟨s+1,by omega,by go_num,hide s5.out.1,hide s5.out.2⟩,by simp[intOf];omega⟩
   obtain rfl:s=t:=by omega
   obtain⟨a4,c4,e4,hI4,-⟩:=row_il hO.out fun x hx=>by
    obtain⟨m,hm,rfl⟩:=List.mem_map.1 hx
    exact(hl9.out m (List.mem_of_mem_take (List.mem_filter.1 hm).1)).2
   rw[List.take_of_length_le (Nat.le_of_eq hn)]at e4 hI4
   subst e4
   have kf:=hide (grow_step kr.out s1.out.2.2.1)
   replace hI4:=hide hI4
   clear hO hr9 hl9
   go_wp2_with fail
   go_ret
   exact⟨a4,c4,all,rfl,hI4.out,hall.out,kf.out⟩
end Nt
namespace Nt

theorem pot_le {L:List Nd}{M:Nat}(Sn:List Int): ∀n:Nat,(∀i:Nat,i<n→(ndI L (i:Int)).kids.length≤M)→pot L Sn n≤n*(1+M)
 |0,_=>by simp[pot]
 |n+1,h=>by
  have h1:=pot_le Sn n fun i hi=>h i o_m
  have h2:=h n o_m
  unfold pot
  rw[Nat.add_mul,Nat.one_mul]
  split <;> omega
theorem pot_none (n:Nat):pot [] [] n=n:=by
 induction n with
 |zero=>rfl
 |succ n ih=>
  unfold pot
  rw[ih]
  simp[ndI,cst]
theorem pot_one (Sn:List Int)(x:Int)(h0:0≤x)(hx:x∉Sn)(n:Nat)(hn:x<(n:Int)):pot [] Sn n=pot [] (x::Sn) n+1:=by
 have h:=pot_add [] Sn x h0 hx n hn
 have e:(ndI [] x).kids.length=0:=by simp[ndI,cst]
 rw[e]at h
 exact h
theorem own_mono {w:World}{base base':Nat}{e:TypeId}{size:Nat}{v:Value}{n:Nat}{xs:List Value}(h:w.ownsRow base e size v n xs)(hb:base'≤base):w.ownsRow base' e size v n xs:=
 ⟨h.1,h.2.imp id fun⟨g,cap,cur,h1,h2,h3⟩=>⟨g,cap,cur,h1,Nat.le_trans hb h2,h3⟩⟩
def SpP (w w':World)(e:Ending)(L:List Nd)(kd idle:Int)(ids:List Int):Prop:=
 Below w.heap.size w w'∧(((∃x∈ids,¬okI L x)∧e= .returned (.tuple #[.slice none 0 0,.int .i64 80]))∨
  ((∀x∈ids,okI L x)∧∃v rs,e= .returned (.tuple #[v,.int .i64 0])∧w'.ownsRow w.heap.size 155 9 v rs.length (flat9 rs)∧Mb9 L (Mem L kd idle ids) rs∧rs.length≤L.length∧∀m∈rs,NC (fun _=>True) w' m.x m.n 2097152))
theorem NC.any {F:Nat→Prop}{w:World}{x:NR}{n:Nd}{B:Nat}(h:NC F w x n B):NC (fun _=>True) w x n B:=h.move (Nat.le_refl _) (fun _ _ _=>rfl) fun _ _ _=>trivial
theorem spread_n {w:World}{pa pm:Nat}{nn kk:Int}{s:St}{F:Nat→Prop}{kd dual idle rul:Int}{K kc:Nat}{ka:Option Addr}{ids:List Int}(hkd2:kd=5∨kd=6)(hG:AG w pa pm nn kk s F)(hV:Gv kk s.L)(h0:0≤kk)(hkk:kk≤2097152)(hI:IL w ka ids.length ids)(hil:ids.length≤100000):
  Calls Tryz.prog 93 #[.agg (lwV kd dual idle rul K),.pointer (some ⟨pa,0,none⟩),.slice ka ids.length kc] w fun e w'=>SpP w w' e s.L kd idle ids:=by
 have hll:s.L.length≤2002:=by have h1:=hG.ln;have h2:=hG.cn;have h3:=hG.n2;omega
 have b1:=below_alloc w (.cells #[.int .i64 kd,.int .i64 dual,.int .i64 idle,.int .i64 rul,.func (.func K) #[] #[]] 94)
 have hL:LwB (w.alloc (.cells #[.int .i64 kd,.int .i64 dual,.int .i64 idle,.int .i64 rul,.func (.func K) #[] #[]] 94)) w.heap.size kd dual idle rul K:=heap_alloc_new w _
 have hG1:=hG.below b1
 have hI1:=hI.below b1
 have hmk:=run_makeMap (P:=Tryz.prog) 205 (w.alloc (.cells #[.int .i64 kd,.int .i64 dual,.int .i64 idle,.int .i64 rul,.func (.func K) #[] #[]] 94))
 have hs1:(w.alloc (.cells #[.int .i64 kd,.int .i64 dual,.int .i64 idle,.int .i64 rul,.func (.func K) #[] #[]] 94)).heap.size=w.heap.size+1:=by simp
 simp only[lwV]
 go_enter Tryz.func93,Tryz.ntmps93
 go_wp2_with fail
 clear hmk hG hI
 generalize w.alloc (.cells #[.int .i64 kd,.int .i64 dual,.int .i64 idle,.int .i64 rul,.func (.func K) #[] #[]] 94)=w1 at*
 have b2:=below_alloc w1 (.map #[] 0)
 have hmp:(w1.alloc (.map #[] 0)).ownsMap Tryz.prog 3 unitElem (w.heap.size+1) 0 (.map []:DataW Value):=hs1▸World.ownsMap_made w1 _ _ _
 have hI2:=hI1.below b2
 have hs2:(w1.alloc (.map #[] 0)).heap.size=w1.heap.size+1:=by simp
 generalize w1.alloc (.map #[] 0)=w2 at*
 by_cases hid0:ids= []
 ·subst hid0
  refine(cloneI_n (kn:=0) hI2 (by simp)).mono ?_
  rintro e w3 ⟨a,c,rfl,-,-,k3⟩
  have kf:=hide (grow_step k3 (grow_step b2 b1))
  clear hI1 hI2 hmp hL hG1 b1 b2 k3
  go_wp2_with fail
  go_loopw [8,10] (fun mv lv wr=>mv= .slice none 0 0∧lv= .slice a 0 c∧Hid (Below w.heap.size w wr)) (fun _ _ _=>0)
  case atStart=>exact⟨rfl,rfl,kf⟩
  case round=>
   obtain⟨rfl,rfl,kr⟩:=hrel
   go_wp2_with fail
   refine bodyPost_ret (results_tmp2 rfl _ _ _) rfl ?_
   refine⟨kr.out,.inr ⟨fun x hx=>absurd hx List.not_mem_nil,.slice none 0 0,[],rfl,World.ownsRow_nil _ _ _ _,⟨fun m hm=>absurd hm List.not_mem_nil,fun x=>⟨fun hx=> ?_,fun⟨m,hm,_⟩=>absurd hm List.not_mem_nil⟩,fun x hx=>hx.2.1⟩,Nat.zero_le _,fun m hm=>absurd hm List.not_mem_nil⟩⟩
   exact absurd (hx.1 (fun _=>False) (fun y hy=>absurd hy List.not_mem_nil) fun _ _ h _ _ _=>h) id
 have hl0:=List.length_pos_iff.2 hid0
 rcases hI2.2 with h2|⟨b,off,rfl,hb,h2⟩
 ·omega
 have hI64: ∀x∈ids,I64 x:=fun x hx=>by
  obtain⟨i,hi,rfl⟩:=List.getElem_of_mem hx
  exact(h2 i hi).2
 refine(Tryz.slices_Clone_int b off ids.length kc ids w2 (Nat.le_refl _) o_m (fun j hj=> ?_)).mono ?_
 ·rw[(h2 j hj).1,List.getD_eq_getElem?_getD,List.getElem?_eq_getElem hj]
  rfl
 rintro e w3 ⟨lv0,rfl,hown,-,k3⟩
 rw[List.take_of_length_le (Nat.le_refl _)]at hown
 obtain⟨a0,c0,rfl⟩: ∃a c,lv0= .slice a ids.length c:=by
  rcases Joins.ownsRow_forms hown with⟨h1,h2⟩|⟨g1,cap1,h1⟩
  ·omega
  exact⟨_,cap1,h1⟩
 have hS0:Hid (SpM w1 w3 s.L (w.heap.size+1) (.slice none 0 0) (.slice a0 ids.length c0) [] [] ids (fun _=>False) (.map [])):=hide
  {
   nd:=fun m hm=>absurd hm List.not_mem_nil
   mr:=World.ownsRow_nil _ _ _ _
   lr:=own_mono hown o_m
   mp:=hmp.kept (gb_none k3) (by simp)
   md:=fun x _=>by simp[Maps.has]
   ap:=fun b hb=>by cases hb
   cb:=fun b hb=>hb.elim
   mb:=fun e=>by cases e
   lb:=fun e=>by have:=(hown.lt _ e).1;omega
   bl:=by omega
   bs:=by have:=k3.size;omega
   k:=grow_step k3 b2
   li:=hI64}
 have hpl:pot s.L [] s.L.length≤4010006:=by
  refine Nat.le_trans (pot_le (M:=2002) [] s.L.length fun i hi=> ?_) ?_
  ·have hk:=(hV.kids (i:=(i:Int)) ⟨by omega,by omega⟩).1
   omega
  exact Nat.le_trans (Nat.mul_le_mul_right 2003 hll) (by decide)
 have hLk:Hid (∀wr,Below w1.heap.size w1 wr→LwB wr w.heap.size kd dual idle rul K∧AG wr pa pm nn kk s F∧Below w.heap.size w wr):=hide fun wr k=>⟨hL.below k,hG1.below k,grow_step k b1⟩
 clear hI1 hI2 hmp hL hG1 b1 b2 k3 hown h2 hI64
 go_wp2_with fail
 go_loopg [8,10] (ids.length+pot s.L [] s.L.length) (fun gk mv lv wr=> ∃(rs:List Mr) (Sn Lf:List Int) (C:Nat→Prop) (D:DataW Value),Hid (SpM w1 wr s.L (w.heap.size+1) mv lv rs Sn Lf C D)∧Hid (Spr s.L kd idle ids (rs.map Mr.id) Sn Lf)∧Hid (gk=Lf.length+pot s.L Sn s.L.length∧gk≤4110006∧rs.length≤Sn.length∧Sn.length+pot [] Sn s.L.length≤s.L.length))
 case atStart=>exact⟨[],[],ids,_,_,hS0,hide (spr_0 _ _ _ _),hide ⟨rfl,by omega,Nat.le_refl _,by rw[pot_none];simp⟩⟩
 case round=>
  obtain⟨rs,Sn,Lf,C,D,hM,hP,hgk⟩:=hrel
  clear hS0
  rcases List.eq_nil_or_concat Lf with rfl|⟨Lf,x,rfl⟩
  ·obtain⟨a4,c4,rfl⟩: ∃a c,u10= .slice a 0 c:=own_form (n:=0) hM.out.lr
   obtain⟨a5,c5,rfl⟩:=row9_form hM.out.mr
   have hfin:Hid (SpP w wr (.returned (.tuple #[.slice a5 rs.length c5,.int .i64 0])) s.L kd idle ids):=hide (by
    have hd:=hP.out.done
    have h5:=hgk.out.2.2.1
    have h6:=hgk.out.2.2.2
    refine⟨(hLk.out wr hM.out.k).2.2,.inr ⟨hd.1,_,rs,rfl,own_mono hM.out.mr o_m,⟨fun m hm=>(hM.out.nd m hm).1,fun y=> ?_,fun y hy=>hy.2.1⟩,by omega,fun m hm=>NC.any (hM.out.nd m hm).2⟩⟩
    rw[←hd.2.2 y,List.mem_map])
   clear hM hP hgk hLk
   go_wp2_with fail
   refine bodyPost_ret (results_tmp2 rfl _ _ _) rfl ?_
   exact hfin.out
  rw[List.concat_eq_append]at hM hP hgk
  obtain⟨g,cap,rfl,hgl,hcx,hx64,hcap,hM2⟩:=hM.out.pop
  replace hM2:=hide hM2
  have hgk2:=hgk.out
  rw[List.length_append,List.length_singleton]at hgk2
  have hz0: ∀w:World,(zeroValue 122).run Tryz.prog w= .ok (.agg #[]) w:=fun w=>by kernel_rfl
  have hky:=keyOf_i hx64
  obtain⟨a5,c5,rfl⟩:=row9_form hM2.out.mr
  have hmd:=hM2.out.md x hx64
  have hmp:=hM2.out.mp
  generalize hq:Lf.length=q at*
  have hq0:(0:Int)≤(q:Int):=by omega
  have hsub:((q:Int)+1-1)=(q:Int):=by omega
  have hwr:IntKind.i64.wrap (q:Int)=(q:Int):=by unfold IntKind.wrap;simp[IntKind.bits,IntKind.signed];omega
  have hqc:q≤cap:=by omega
  clear hM
  by_cases hxs:x∈Sn
  ·rw[decide_eq_true hxs]at hmd
   go_wp2_with(at_lookup;refine wpList_lookup_own_unit _ rfl _ _ 205 rfl 3 122 tk Tryz.underlying205 (hz0 _) (w.heap.size+1) Sn.length D rfl hmp (.int .i64 x) (.int .i64 x) rfl hky ?_;rw[hmd])
   go_roundg (q+pot s.L Sn s.L.length)
   case measure=>omega
   case rel=>exact⟨rs,Sn,Lf,C,D,hide (hM2.out.grow (below_alloc _ _)),hide (hP.out.old hxs),hide ⟨by rw[hq],by omega,hgk2.2.2⟩⟩
  rw[decide_eq_false hxs]at hmd
  have hM3:=hide (hM2.out.grow (below_alloc wr (.cells #[] 122)))
  have hmp3:=hM3.out.mp
  have hml:Sn.length<maxLen:=by unfold maxLen;omega
  go_wp2_with(first|(at_lookup;refine wpList_lookup_own_unit _ rfl _ _ 205 rfl 3 122 tk Tryz.underlying205 (hz0 _) (w.heap.size+1) Sn.length D rfl hmp (.int .i64 x) (.int .i64 x) rfl hky ?_;rw[hmd])|(at_mapUpdate;refine wpList_mapUpdate_own _ rfl _ _ _ 205 rfl 3 122 tk Tryz.underlying205 unitElem (w.heap.size+1) Sn.length D rfl hmp3 hml _ _ (.int .i64 x) rfl rfl hky (.agg []) [] unitElem_mk ?_;intro w4 hm4 hg4;have hM4:=hide (hM3.out.seen hx64 hm4 hg4);clear hm4 hg4 hM3 hmp3 hmp hmd hcx hM2 hz0))
  have hnode:=hide (node9_n (hLk.out w4 hM4.out.k).2.1.ax hV h0 (B:=2097152) hkk o_m x)
  clear hml hky
  refine hnode.out.mono ?_
  rintro e w5 (⟨hok,xr,rfl,hN,k5⟩|⟨hok,rfl,k5⟩)
  ·obtain⟨kdn,sd,ad,ld,cd,ap,np,cp,sk,ak,lk,ck,vr,kka,kkn,kkc⟩:=xr
   obtain rfl:kdn=(ndI s.L x).kind:=hN.kd
   obtain rfl:vr=(ndI s.L x).var:=hN.vr
   obtain rfl:kkn=(ndI s.L x).kids.length:=hN.kids.1.symm
   simp only[nE]
   have hx0:=hok.1
   have hpa:=pot_add s.L Sn x hx0 hxs s.L.length hok.2
   have hp1:=pot_one Sn x hx0 hxs s.L.length hok.2
   have hM5:=hide (hM4.out.grow k5)
   have hlw:=hLk.out w5 hM5.out.k
   have ul0:=hlw.1.c0
   have ul2:=hlw.1.c2
   have hll5:=hlw.1.lt
   have b6:=below_alloc w5 (.cells #[.int .i64 (ndI s.L x).kind,.bool sd,.slice ad ld cd,.slice ap np cp,.bool sk,.slice ak lk ck,.int .i64 (ndI s.L x).var,.slice kka (ndI s.L x).kids.length kkc] 77)
   have hM6:=hide (hM5.out.grow b6)
   clear hLk hlw hnode
   by_cases hkd:(ndI s.L x).kind=kd
   ·have hkl:2≤(ndI s.L x).kids.length:=by
     rcases hV.cases hok with⟨_,e⟩|⟨_,e⟩|⟨_,f,_,hf,_,e,_⟩|⟨_,k1,kids,_,e,h5,_⟩|⟨_,k1,v1,x1,hf,e,_⟩
     ·rw[e]at hkd;simp[cst]at hkd;omega
     ·rw[e]at hkd;simp[cst]at hkd;omega
     ·rw[e]at hkd;dsimp only at hkd;omega
     ·rw[e];exact h5
     rw[e]at hkd;dsimp only at hkd;omega
    have hIk:=hide (hN.kids.below b6)
    have hlr:=hM6.out.lr
    rw[hq]at hlr
    replace hlr:=hide hlr
    have hsz:=hM6.out.k.size
    have hsp:=hide (hP.out.kids hok hkd)
    have hkI:Hid (∀z∈(ndI s.L x).kids,I64 z):=hide fun z hz=>by
     have h7:=hV.wk x hok z hz
     have h8:=hok.2
     unfold I64
     omega
    have hmore:Hid (∀v' w',World.ownsRow w' w1.heap.size 3 1 v' (q+(ndI s.L x).kids.length) ((Lf++(ndI s.L x).kids).map (Value.int .i64))→World.grownBy (w5.alloc (.cells #[.int .i64 (ndI s.L x).kind,.bool sd,.slice ad ld cd,.slice ap np cp,.bool sk,.slice ak lk ck,.int .i64 (ndI s.L x).var,.slice kka (ndI s.L x).kids.length kkc] 77)) w' (Value.slice (some ⟨g,0,none⟩) q cap).ownBlock→(v'.ownBlock=(Value.slice (some ⟨g,0,none⟩) q cap).ownBlock∨v'.ownBlock=some (w5.alloc (.cells #[.int .i64 (ndI s.L x).kind,.bool sd,.slice ad ld cd,.slice ap np cp,.bool sk,.slice ak lk ck,.int .i64 (ndI s.L x).var,.slice kka (ndI s.L x).kids.length kkc] 77)).heap.size)→SpM w1 w' s.L (w.heap.size+1) (.slice a5 rs.length c5) v' rs (x::Sn) (Lf++(ndI s.L x).kids) C (D.put (.int .i64 x) (.agg []))):=hide fun v' w' ho hg ha=>hM6.out.more (by rw[hq];exact ho) hg ha hkI.out
    replace hN:=hide hN
    clear hM4 hM5 hM6 hP
    subst hkd
    go_wp2_with(at_builtin;go_loud(refine app_ii rfl _ _ rfl w1.heap.size _ _ _ rfl hlr.out kka (ndI s.L x).kids.length kkc (ndI s.L x).kids rfl o_m hIk.out o_m hsz ?_);intro v' w' ho hg ha;have h7:=hide (hmore.out v' w' ho hg ha);clear ho hg ha hmore hlr hIk)
    go_roundg (q+(ndI s.L x).kids.length+pot s.L (x::Sn) s.L.length)
    case measure=>omega
    case rel=>exact⟨rs,x::Sn,Lf++(ndI s.L x).kids,C,_,h7,hsp,hide ⟨by rw[List.length_append,hq],by omega,by rw[List.length_cons];omega,by rw[List.length_cons];omega⟩⟩
   by_cases hxi:x=idle
   ·subst hxi
    have hsp:=hide (hP.out.idle hok hkd)
    replace hN:=hide hN
    clear hM4 hM5 hP
    go_wp2_with fail
    go_roundg (q+pot s.L (x::Sn) s.L.length)
    case measure=>omega
    case rel=>exact⟨rs,x::Sn,Lf,C,_,hM6,hsp,hide ⟨by rw[hq],by omega,by rw[List.length_cons];omega,by rw[List.length_cons];omega⟩⟩
   have hsp:=hide (hP.out.mem hxs hok hkd hxi)
   have b7:=below_alloc' b6 (.cells #[.int .i64 x,.int .i64 (ndI s.L x).kind,.bool sd,.slice ad ld cd,.slice ap np cp,.bool sk,.slice ak lk ck,.int .i64 (ndI s.L x).var,.slice kka (ndI s.L x).kids.length kkc] 155)
   have hM7:=hide (hM5.out.grow b7)
   have hN7:NC (fun b=>w4.heap.size≤b∧b<w5.heap.size) ((w5.alloc (.cells #[.int .i64 (ndI s.L x).kind,.bool sd,.slice ad ld cd,.slice ap np cp,.bool sk,.slice ak lk ck,.int .i64 (ndI s.L x).var,.slice kka (ndI s.L x).kids.length kkc] 77)).alloc (.cells #[.int .i64 x,.int .i64 (ndI s.L x).kind,.bool sd,.slice ad ld cd,.slice ap np cp,.bool sk,.slice ak lk ck,.int .i64 (ndI s.L x).var,.slice kka (ndI s.L x).kids.length kkc] 155)) ⟨(ndI s.L x).kind,sd,ad,ld,cd,ap,np,cp,sk,ak,lk,ck,(ndI s.L x).var,kka,(ndI s.L x).kids.length,kkc⟩ (ndI s.L x) 2097152:=hN.move b7.size (fun b _ hl=>b7.block b hl) fun b hb hl=>⟨hb,hl⟩
   have hG7: ∀b,(w4.heap.size≤b∧b<w5.heap.size)→b<((w5.alloc (.cells #[.int .i64 (ndI s.L x).kind,.bool sd,.slice ad ld cd,.slice ap np cp,.bool sk,.slice ak lk ck,.int .i64 (ndI s.L x).var,.slice kka (ndI s.L x).kids.length kkc] 77)).alloc (.cells #[.int .i64 x,.int .i64 (ndI s.L x).kind,.bool sd,.slice ad ld cd,.slice ap np cp,.bool sk,.slice ak lk ck,.int .i64 (ndI s.L x).var,.slice kka (ndI s.L x).kids.length kkc] 155)).heap.size∧b≠w.heap.size+1∧(Value.slice a5 rs.length c5).ownBlock≠some b∧(Value.slice (some ⟨g,0,none⟩) q cap).ownBlock≠some b:=fun b hb=>by
    have h1:=hM4.out.bs
    have h2:=b7.size
    exact⟨by omega,by omega,fun e=>by have:=(hM4.out.mr.lt b e).2;omega,fun e=>by have:=(hM4.out.lr.lt b e).2;omega⟩
   have e6:(w5.alloc (.cells #[.int .i64 (ndI s.L x).kind,.bool sd,.slice ad ld cd,.slice ap np cp,.bool sk,.slice ak lk ck,.int .i64 (ndI s.L x).var,.slice kka (ndI s.L x).kids.length kkc] 77)).heap.size=w5.heap.size+1:=by simp
   have hB7:Hid (M9B ((w5.alloc (.cells #[.int .i64 (ndI s.L x).kind,.bool sd,.slice ad ld cd,.slice ap np cp,.bool sk,.slice ak lk ck,.int .i64 (ndI s.L x).var,.slice kka (ndI s.L x).kids.length kkc] 77)).alloc (.cells #[.int .i64 x,.int .i64 (ndI s.L x).kind,.bool sd,.slice ad ld cd,.slice ap np cp,.bool sk,.slice ak lk ck,.int .i64 (ndI s.L x).var,.slice kka (ndI s.L x).kids.length kkc] 155)) (w5.heap.size+1) x ⟨(ndI s.L x).kind,sd,ad,ld,cd,ap,np,cp,sk,ak,lk,ck,(ndI s.L x).var,kka,(ndI s.L x).kids.length,kkc⟩):=hide (e6▸heap_alloc_new (w5.alloc (.cells #[.int .i64 (ndI s.L x).kind,.bool sd,.slice ad ld cd,.slice ap np cp,.bool sk,.slice ak lk ck,.int .i64 (ndI s.L x).var,.slice kka (ndI s.L x).kids.length kkc] 77)) (.cells #[.int .i64 x,.int .i64 (ndI s.L x).kind,.bool sd,.slice ad ld cd,.slice ap np cp,.bool sk,.slice ak lk ck,.int .i64 (ndI s.L x).var,.slice kka (ndI s.L x).kids.length kkc] 155))
   have hmr:=hide hM7.out.mr
   have hsz:=hM7.out.k.size
   have hput:Hid (∀v' w',World.ownsRow w' w1.heap.size 155 9 v' (rs.length+1) (flat9 (rs++ [⟨x,⟨(ndI s.L x).kind,sd,ad,ld,cd,ap,np,cp,sk,ak,lk,ck,(ndI s.L x).var,kka,(ndI s.L x).kids.length,kkc⟩,ndI s.L x⟩]))→World.grownBy ((w5.alloc (.cells #[.int .i64 (ndI s.L x).kind,.bool sd,.slice ad ld cd,.slice ap np cp,.bool sk,.slice ak lk ck,.int .i64 (ndI s.L x).var,.slice kka (ndI s.L x).kids.length kkc] 77)).alloc (.cells #[.int .i64 x,.int .i64 (ndI s.L x).kind,.bool sd,.slice ad ld cd,.slice ap np cp,.bool sk,.slice ak lk ck,.int .i64 (ndI s.L x).var,.slice kka (ndI s.L x).kids.length kkc] 155)) w' (Value.slice a5 rs.length c5).ownBlock→(v'.ownBlock=(Value.slice a5 rs.length c5).ownBlock∨v'.ownBlock=some ((w5.alloc (.cells #[.int .i64 (ndI s.L x).kind,.bool sd,.slice ad ld cd,.slice ap np cp,.bool sk,.slice ak lk ck,.int .i64 (ndI s.L x).var,.slice kka (ndI s.L x).kids.length kkc] 77)).alloc (.cells #[.int .i64 x,.int .i64 (ndI s.L x).kind,.bool sd,.slice ad ld cd,.slice ap np cp,.bool sk,.slice ak lk ck,.int .i64 (ndI s.L x).var,.slice kka (ndI s.L x).kids.length kkc] 155)).heap.size)→SpM w1 w' s.L (w.heap.size+1) v' (.slice (some ⟨g,0,none⟩) q cap) (rs++ [⟨x,⟨(ndI s.L x).kind,sd,ad,ld,cd,ap,np,cp,sk,ak,lk,ck,(ndI s.L x).var,kka,(ndI s.L x).kids.length,kkc⟩,ndI s.L x⟩]) (x::Sn) Lf (fun b=>C b∨(w4.heap.size≤b∧b<w5.heap.size)) (D.put (.int .i64 x) (.agg []))):=hide fun v' w' ho hg ha=>hM7.out.put rfl hN7 hG7 ho hg ha
   clear hM4 hM5 hM6 hM7 hP hN hN7 hG7 b6 b7 e6
   go_wp2_with(at_builtin;go_loud(refine app9 rfl _ _ rfl w1.heap.size _ _ _ rfl hmr.out ⟨x,⟨(ndI s.L x).kind,sd,ad,ld,cd,ap,np,cp,sk,ak,lk,ck,(ndI s.L x).var,kka,(ndI s.L x).kids.length,kkc⟩,ndI s.L x⟩ (w5.heap.size+1) rfl hB7.out o_m hsz ?_);intro v' w' ho hg ha;have h7:=hide (hput.out v' w' ho hg ha);clear ho hg ha hput hmr hB7)
   go_roundg (q+pot s.L (x::Sn) s.L.length)
   case measure=>omega
   case rel=>exact⟨_,x::Sn,Lf,_,_,h7,hide (by rw[List.map_append];exact hsp.out),hide ⟨by rw[hq],by omega,by simp;omega,by rw[List.length_cons];omega⟩⟩
  have hbad:=rk_bad hV.wk (hP.out.l x (by simp)) hok
  have hfin:Hid (∀w',Below w5.heap.size w5 w'→SpP w w' (.returned (.tuple #[.slice none 0 0,.int .i64 80])) s.L kd idle ids):=hide fun w' k'=>⟨grow_step k' (grow_step k5 (hLk.out w4 hM4.out.k).2.2),.inl ⟨hbad,rfl⟩⟩
  simp only[nE,zNR]
  clear hLk hM4 hP hnode k5 hbad
  have b6:=hide (hfin.out _ (below_alloc w5 (.cells #[.int .i64 0,.bool false,.slice none 0 0,.slice none 0 0,.bool false,.slice none 0 0,.int .i64 0,.slice none 0 0] 77)))
  clear hfin
  go_wp2_with fail
  first|refine bodyPost_ret (results_tmp2 rfl _ _ _) rfl ?_|(rw[Exit.noGoto_ret];refine bodyPost_ret (results_tmp2 rfl _ _ _) rfl ?_)|trace_state
  exact b6.out
end Nt
end Go.Proofs.YtllfelooahplhaaGreatDoor
