/-
 Several texts in one: UH,UI.
-/
import Derived.Test.YtllfelooahplhaaGreatDoorSbn41
import Derived.Test.YtllfelooahplhaaGreatDoorSbn42
import Derived.Defers
import Derived.Recover
set_option maxRecDepth 100000
set_option maxHeartbeats 1600000
namespace Go.Proofs.YtllfelooahplhaaGreatDoor
open Go.RowKit Go.Sort Go.Shelf
open Tm At
namespace Nt
namespace Sb

theorem isConstant_n {w:World}(x:Int):Calls Tryz.prog 80 #[.int .i64 x] w fun e w'=>e= .returned (.bool (decide (x=0∨x=1)))∧w'=w:=by
 go_enter Tryz.func80,Tryz.ntmps80
 by_cases h0:x=0
 ·subst h0
  go_wp2_with fail
  go_ret
  exact⟨rfl,rfl⟩
 go_wp2_with fail
 go_ret
 refine⟨?_,rfl⟩
 exact ret_bool (by simp[Bool.beq_eq_decide_eq,Bool.decide_or])
theorem itself_n {w:World}{kd:Int}{sd:Bool}{ad:Option Addr}{ld cd:Nat}{ap:Option Addr}{np cp:Nat}{sk:Bool}{ak:Option Addr}{lk ck:Nat}:Calls Tryz.prog 32 #[.agg #[.int .i64 kd,.bool sd,.slice ad ld cd,.slice ap np cp,.bool sk,.slice ak lk ck]] w fun e w'=>e= .returned (.agg #[.int .i64 kd,.bool sd,.slice ad ld cd,.slice ap np cp,.bool sk,.slice ak lk ck])∧Below w.heap.size w w':=by
 go_enter Tryz.func32,Tryz.ntmps32
 have b1:=below_alloc w (.cells #[.int .i64 kd,.bool sd,.slice ad ld cd,.slice ap np cp,.bool sk,.slice ak lk ck] 69)
 have b2:=hide (below_alloc' b1 (.cells #[.int .i64 kd,.bool sd,.slice ad ld cd,.slice ap np cp,.bool sk,.slice ak lk ck] 69))
 have hn:=hide (heap_alloc_new (w.alloc (.cells #[.int .i64 kd,.bool sd,.slice ad ld cd,.slice ap np cp,.bool sk,.slice ak lk ck] 69)) (.cells #[.int .i64 kd,.bool sd,.slice ad ld cd,.slice ap np cp,.bool sk,.slice ak lk ck] 69))
 clear b1
 go_wp2_with fail
 refine bodyPost_ret (results_cell_row rfl _ _ (w.alloc (.cells #[.int .i64 kd,.bool sd,.slice ad ld cd,.slice ap np cp,.bool sk,.slice ak lk ck] 69)).heap.size 69 _ (0,0) _ (by simp) hn.out Tryz.underlying69 rfl k_f) rfl ?_
 exact⟨rfl,b2.out⟩
theorem caught_n (p:Addr)(w:World):
  CallsD Tryz.prog 133 #[.pointer (some p)] .returning w fun e u' w'=>e= .returned (.tuple #[])∧u'= .returning∧w'=w:=by
 refine callsD_of_wpS Tryz.func133 rfl fun c₀ cs hu=> ?_
 apply wpS_seq
 apply wpS_region
 simp[wpOpsS,go_sem,recoverD,hu,Tryz.ntmps133,Exit.thenS]
 refine wpS_cond (t:=false) (by simp[Act.eval,Array.replicate]) ?_
 simp only[Bool.false_eq_true,if_false]
 refine wpS_of_wp (wp_skip ?_)
 cases c₀
 simp_all [bodyPostS,results,Tryz.results133]
theorem ask_n {w:World}{kd:Int}{sd:Bool}{ad:Option Addr}{ld cd:Nat}{ap:Option Addr}{np cp:Nat}{sk:Bool}{ak:Option Addr}{lk ck:Nat}:Calls Tryz.prog 81 #[.agg #[.func (.func 32) #[] #[]],.agg #[.int .i64 kd,.bool sd,.slice ad ld cd,.slice ap np cp,.bool sk,.slice ak lk ck]] w fun e w'=>e= .returned (.agg #[.int .i64 kd,.bool sd,.slice ad ld cd,.slice ap np cp,.bool sk,.slice ak lk ck])∧Below w.heap.size w w':=by
 have hmf: ∀(fn:Fn) (first cap:Array Value) (w:World),(Instr.makeFunc fn first cap).run Tryz.prog w= .ok (.func fn first cap) w:=fun _ _ _ _=>rfl
 have eg: ∀args w,(callFunc 32 args).run Tryz.prog w= .ok (.enter 32 args) w:=fun _ _=>by kernel_rfl
 have b1:=below_alloc w (.cells #[.func (.func 32) #[] #[]] 136)
 have b2:=below_alloc' b1 (.cells #[.int .i64 kd,.bool sd,.slice ad ld cd,.slice ap np cp,.bool sk,.slice ak lk ck] 69)
 have b3:=below_alloc' b2 (.cells #[.int .i64 0,.bool false,.slice none 0 0,.slice none 0 0,.bool false,.slice none 0 0] 69)
 have y3:=AB.new ((w.alloc (.cells #[.func (.func 32) #[] #[]] 136)).alloc (.cells #[.int .i64 kd,.bool sd,.slice ad ld cd,.slice ap np cp,.bool sk,.slice ak lk ck] 69)) 0 false none 0 0 none 0 0 false none 0 0
 rw[show((w.alloc (.cells #[.func (.func 32) #[] #[]] 136)).alloc (.cells #[.int .i64 kd,.bool sd,.slice ad ld cd,.slice ap np cp,.bool sk,.slice ak lk ck] 69)).heap.size=w.heap.size+1+1 by simp]at y3
 go_enter_defers Tryz.func81,Tryz.ntmps81
 go_wp2_with fail
 refine itself_n.mono ?_
 rintro e w4 ⟨rfl,k4⟩
 have y4:=y3.below k4
 have k5:=hide (grow_step k4 b3)
 have hr:w.heap.size≤w.heap.size+1+1:=by omega
 clear y3 k4 b1 b2 b3 eg
 generalize w.heap.size+1+1=r at*
 have g0:=y4.c0
 have g1:=y4.c1
 have g2:=y4.c2
 have g3:=y4.c3
 have g4:=y4.c4
 have g5:=y4.c5
 have f:=y4.f
 have hfin:=hide (ab_fin y4 kd sd ad ld cd ap np cp sk ak lk ck)
 have kfin:=hide ((((((k5.out.setCell (p:=⟨r,0,none⟩) hr (.int .i64 kd)).setCell (p:=⟨r,1,none⟩) hr (.bool sd)).setCell (p:=⟨r,2,none⟩) hr (.slice ad ld cd)).setCell (p:=⟨r,3,none⟩) hr (.slice ap np cp)).setCell (p:=⟨r,4,none⟩) hr (.bool sk)).setCell (p:=⟨r,5,none⟩) hr (.slice ak lk ck))
 go_wp2_with fail
 trace_state
 refine leaves_cons (f:=133) (args:=#[.pointer (some ⟨r,0,none⟩)]) (by simp) (by simp[go_sem]) ?_
 refine(caught_n ⟨r,0,none⟩ _).mono ?_
 rintro e u' w'' ⟨rfl,rfl,rfl⟩
 refine⟨_,results_cell_row rfl _ _ r 69 _ (0,0) _ rfl hfin.out Tryz.underlying69 rfl k_f,rfl,kfin.out⟩
end Sb
end Nt
namespace Nt
namespace Sb

def IdA (a a':Atm):Prop:=a'=a∧Fit a
theorem idA_fit :TFit IdA:=fun _ _ h=>by rw[h.1];exact h.2
theorem mks_map {w0 wI:World}{pa pm:Nat}{nn kk:Int}{s:St}{F:Nat→Prop}{B:Bl}(hk8:kk≤8)(hps: ∀i,okI s.L i→(ndI s.L i).ps.length≤209716):
  Mks w0 wI F B pa pm 80 #[] #[] (.func (.func 81) #[.agg #[.func (.func 32) #[] #[]]] #[]) nn kk s.L (Pln s.L) (fun x=>decide (x=0∨x=1)) (TuJ IdA) (TuR IdA nn kk):=
 {sg:=fun args w=>by kernel_rfl
  sf:=fun w' x ha hx ho=>(isConstant_n x).mono fun e w2 h=>⟨h.1,by rw[h.2];exact Below.refl _ _⟩
  gk:=fun x hx ho _ k hk=>((her_iff ho).1 hx).2 k hk
  jst:=fun s' x hl hg hx ho hs=>by
   have ho':okI s'.L x:=by obtain⟨t,e⟩:=hl;rw[e];exact okI_app ho
   exact tuj_stay hg ho' fun y hy hk=>⟨rfl,(hg.atm (dn_ok hg.wk ho' hy) hk).1⟩
  mo:=fun L L' i j h1 h2 h3 h4 h5 h6=>tuj_le h1.wk h2.wk h3 h4 h5 h6
  kp:=fun s i ks r h hg hi=>h.kp idA_fit hg hi
  er:=fun s i ks r h hg hi ho hl he=>h.er hg hi ho hl he
  js:=fun s i ks r h hg hi hp ho he=>h.tuj idA_fit hg hi hp ho he
  fn:=fun w' s' F' i x ks ka kc hE' ha ho hG _ hl hN hI hok hkl hkF=>by
   have ho':okI s'.L i:=by obtain⟨t,e⟩:=hl;rw[e];exact okI_app ho
   have hnd:ndI s'.L i=ndI s.L i:=by obtain⟨t,e⟩:=hl;rw[e];exact ndI_app ho
   have hpl:=hG i (dn_self s.L i)
   have hkd:=hE'.v.kinds ho'
   unfold PlnP at hpl
   rw[←hnd]at hpl
   rcases(show(ndI s'.L i).kind=5∨(ndI s'.L i).kind=6∨(ndI s'.L i).kind<5 by omega)with hk|hk|hk
   ·exact remade5 hE' ho' hk hN hI hkl
   ·exact remade6 hE' ho' hk hN hI hkl
   refine remade0 idA_fit hE' ho' hk hk8 hN (fun args w=>by kernel_rfl) fun w2 sd ad ld cd ap np cp sk ak lk ck k2 zd zp zk=> ?_
   have hnum:=hE'.v.numb hE'.k0 ho'
   have h1:=hnum (ndI s'.L i).d (by simp[Nt.nums])
   have h2:=hnum (ndI s'.L i).k (by simp[Nt.nums])
   refine Calls.mono (ask_n (kd:=(ndI s'.L i).kind) (cd:=cd) (cp:=cp) (ck:=ck)) ?_
   rintro e w3 ⟨he,k3⟩
   refine⟨atmN (ndI s'.L i),⟨rfl,(hE'.v.atm ho' hk).1⟩,?_,⟨sd,ad,ld,cd,ap,np,cp,sk,ak,lk,ck,he,zd.below k3,?_,(zp.below k3).mono o_m,zk.below k3,?_⟩,k3⟩
   ·have:=hps i ho
    rw[←hnd]at this
    exact this
   ·rw[zn_limb zd]
    omega
   rw[zn_limb zk]
   omega}
def MpP (nn kk:Int)(w w':World)(e:Ending)(pa pm:Nat)(s:St)(F:Nat→Prop)(id:Int):Prop:=
 ∃r,AO2 w w' e pa pm nn kk F r∧Kp kk s r∧(r.2.2=0→TuJ IdA r.1.L id r.2.1)∧(r.2.2≠0→r.1.er≠0)∧((ndI s.L id).kids= []→¬(id=0∨id=1)→TuR IdA nn kk s id [] r)
theorem map_n {w0 w:World}{pa pm:Nat}{nn kk:Int}{s:St}{F:Nat→Prop}{id:Int}(hE:EA w0 w pa pm nn kk s F)(hk8:kk≤8)(ho:okI s.L id)(hp:Pln s.L id)(hps: ∀i,okI s.L i→(ndI s.L i).ps.length≤209716):
  Calls Tryz.prog 31 #[.pointer (some ⟨pa,0,none⟩),.int .i64 id,.func (.func 32) #[] #[]] w fun e w'=>MpP nn kk w w' e pa pm s F id:=by
 have hL:s.L.length≤2002:=by
  have h1:=hE.g.ln
  have h2:=hE.g.cn
  have h3:=hE.g.n2
  omega
 have hI:I64 id:=by have h1:=ho.1;have h2:=ho.2;unfold I64;omega
 have hm:=hide (missing_n hE.g.ax hE.v hE.k0 hk8 hL ho)
 replace hE:=hide hE
 have hnf: ∀w:World,(binOp BinOp.eql 64 (.func (.func 32) #[] #[]) .nilFunc).run Tryz.prog w= .ok (.bool false) w:=fun _=>by kernel_rfl
 go_enter Tryz.func31,Tryz.ntmps31
 go_wp2_with fail
 refine hm.out.mono ?_
 rintro e w2 ⟨rfl,k2⟩
 have hpn:=hide (plain_n (hE.out.below k2).g.ax hE.out.v.wk o_m ho)
 clear hm
 go_wp2_with fail
 refine hpn.out.mono ?_
 rintro e w3 ⟨b,rfl,hb,k3⟩
 obtain rfl:=hb.2 hp
 clear hb hpn
 have k4:=grow_step k3 k2
 have htu:=hide (turned_n (fun wI (Bb:Bl) _ _=>mks_map (F:=F) (B:=Bb) hk8 hps) (hE.out.below k4) hI ho hp)
 have hres:Hid (∀e w',TnR nn kk (fun x=>decide (x=0∨x=1)) (TuJ IdA) (TuR IdA nn kk) w3 w' e pa pm s F id→MpP nn kk w w' e pa pm s F id):=hide fun e w' ⟨r,h1,h2,h3,h4,h5⟩=>⟨r,ao2_back k4 h1,h2,h3,h4,fun hk hn=>h5 hk (by simpa using hn)⟩
 clear hE hps hp k2 k3 k4
 go_wp2_with fail
 refine htu.out.mono ?_
 rintro e w9 h9
 have h10:=hide (hres.out e w9 h9)
 obtain⟨r,⟨rfl,-⟩,-⟩:=h9
 clear htu hres
 go_wp2_with fail
 refine bodyPost_ret (results_tmp2 rfl _ _ _) rfl ?_
 exact h10.out
theorem map_nil {w:World}(id:Int):Calls Tryz.prog 31 #[.pointer none,.int .i64 id,.func (.func 32) #[] #[]] w fun e w'=>e= .returned (.tuple #[.int .i64 0,.int .i64 1])∧w'=w:=by
 have hnf: ∀w:World,(binOp BinOp.eql 64 (.func (.func 32) #[] #[]) .nilFunc).run Tryz.prog w= .ok (.bool false) w:=fun _=>by kernel_rfl
 go_enter Tryz.func31,Tryz.ntmps31
 go_wp2_with fail
 refine(missing_nil id).mono ?_
 rintro e w2 ⟨rfl,rfl⟩
 go_wp2_with fail
 refine bodyPost_ret (results_tmp2 rfl _ _ _) rfl ?_
 exact⟨rfl,rfl⟩
end Sb
end Nt
end Go.Proofs.YtllfelooahplhaaGreatDoor
