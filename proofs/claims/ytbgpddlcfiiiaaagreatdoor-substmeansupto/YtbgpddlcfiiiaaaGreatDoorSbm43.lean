/-
 Several texts in one: UH,UI,UJ,UK,UL,LSubstMeans.
-/
import Derived.Test.YtbgpddlcfiiiaaaGreatDoorSbm42
import Derived.Test.YtbgpddlcfiiiaaaGreatDoorSbm40
import Derived.Defers
import Derived.Recover
import Derived.Test.YtbgpddlcfiiiaaaGreatDoorSbm38
import Derived.Test.YtbgpddlcfiiiaaaGreatDoorSbm21
import Derived.Test.YtbgpddlcfiiiaaaGreatDoorSbm39
import Derived.Test.YtbgpddlcfiiiaaaGreatDoorSbm22
import Derived.Test.YtbgpddlcfiiiaaaGreatDoorSbm35
set_option maxRecDepth 100000
set_option maxHeartbeats 6400000
namespace Go.Proofs.YtbgpddlcfiiiaaaGreatDoor
open Go.RowKit Go.Sort Go.Shelf
open Tm At
namespace Nt
namespace Sb

theorem isConstant_n {w:World}(x:Int):Calls Tryz.prog 63 #[.int .i64 x] w fun e w'=>e= .returned (.bool (decide (x=0∨x=1)))∧w'=w:=by
 go_enter Tryz.func63,Tryz.ntmps63
 by_cases h0:x=0
 ·subst h0
  go_wp2_with fail
  go_ret
  exact⟨rfl,rfl⟩
 go_wp2_with fail
 go_ret
 refine⟨?_,rfl⟩
 exact ret_bool (by simp[Bool.beq_eq_decide_eq,Bool.decide_or])
theorem itself_n {w:World}{kd:Int}{sd:Bool}{ad:Option Addr}{ld cd:Nat}{ap:Option Addr}{np cp:Nat}{sk:Bool}{ak:Option Addr}{lk ck:Nat}:Calls Tryz.prog 24 #[.agg #[.int .i64 kd,.bool sd,.slice ad ld cd,.slice ap np cp,.bool sk,.slice ak lk ck]] w fun e w'=>e= .returned (.agg #[.int .i64 kd,.bool sd,.slice ad ld cd,.slice ap np cp,.bool sk,.slice ak lk ck])∧Below w.heap.size w w':=by
 go_enter Tryz.func24,Tryz.ntmps24
 have b1:=below_alloc w (.cells #[.int .i64 kd,.bool sd,.slice ad ld cd,.slice ap np cp,.bool sk,.slice ak lk ck] 57)
 have b2:=hide (below_alloc' b1 (.cells #[.int .i64 kd,.bool sd,.slice ad ld cd,.slice ap np cp,.bool sk,.slice ak lk ck] 57))
 have hn:=hide (heap_alloc_new (w.alloc (.cells #[.int .i64 kd,.bool sd,.slice ad ld cd,.slice ap np cp,.bool sk,.slice ak lk ck] 57)) (.cells #[.int .i64 kd,.bool sd,.slice ad ld cd,.slice ap np cp,.bool sk,.slice ak lk ck] 57))
 clear b1
 go_wp2_with fail
 refine bodyPost_ret (results_cell_row rfl _ _ (w.alloc (.cells #[.int .i64 kd,.bool sd,.slice ad ld cd,.slice ap np cp,.bool sk,.slice ak lk ck] 57)).heap.size 57 _ (0,0) _ (by simp) hn.out Tryz.underlying57 rfl k_f) rfl ?_
 exact⟨rfl,b2.out⟩
theorem caught_n (p:Addr)(w:World):
  CallsD Tryz.prog 106 #[.pointer (some p)] .returning w fun e u' w'=>e= .returned (.tuple #[])∧u'= .returning∧w'=w:=by
 refine callsD_of_wpS Tryz.func106 rfl fun c₀ cs hu=> ?_
 apply wpS_seq
 apply wpS_region
 simp[wpOpsS,go_sem,recoverD,hu,Tryz.ntmps106,Exit.thenS]
 refine wpS_cond (t:=false) (by simp[Act.eval,Array.replicate]) ?_
 simp only[Bool.false_eq_true,if_false]
 refine wpS_of_wp (wp_skip ?_)
 cases c₀
 simp_all [bodyPostS,results,Tryz.results106]
theorem ask_n {w:World}{kd:Int}{sd:Bool}{ad:Option Addr}{ld cd:Nat}{ap:Option Addr}{np cp:Nat}{sk:Bool}{ak:Option Addr}{lk ck:Nat}:Calls Tryz.prog 64 #[.agg #[.func (.func 24) #[] #[]],.agg #[.int .i64 kd,.bool sd,.slice ad ld cd,.slice ap np cp,.bool sk,.slice ak lk ck]] w fun e w'=>e= .returned (.agg #[.int .i64 kd,.bool sd,.slice ad ld cd,.slice ap np cp,.bool sk,.slice ak lk ck])∧Below w.heap.size w w':=by
 have hmf: ∀(fn:Fn) (first cap:Array Value) (w:World),(Instr.makeFunc fn first cap).run Tryz.prog w= .ok (.func fn first cap) w:=fun _ _ _ _=>rfl
 have eg: ∀args w,(callFunc 24 args).run Tryz.prog w= .ok (.enter 24 args) w:=fun _ _=>by kernel_rfl
 have b1:=below_alloc w (.cells #[.func (.func 24) #[] #[]] 127)
 have b2:=below_alloc' b1 (.cells #[.int .i64 kd,.bool sd,.slice ad ld cd,.slice ap np cp,.bool sk,.slice ak lk ck] 57)
 have b3:=below_alloc' b2 (.cells #[.int .i64 0,.bool false,.slice none 0 0,.slice none 0 0,.bool false,.slice none 0 0] 57)
 have y3:=AB.new ((w.alloc (.cells #[.func (.func 24) #[] #[]] 127)).alloc (.cells #[.int .i64 kd,.bool sd,.slice ad ld cd,.slice ap np cp,.bool sk,.slice ak lk ck] 57)) 0 false none 0 0 none 0 0 false none 0 0
 rw[show((w.alloc (.cells #[.func (.func 24) #[] #[]] 127)).alloc (.cells #[.int .i64 kd,.bool sd,.slice ad ld cd,.slice ap np cp,.bool sk,.slice ak lk ck] 57)).heap.size=w.heap.size+1+1 by simp]at y3
 go_enter_defers Tryz.func64,Tryz.ntmps64
 go_wp2_with fail
 refine itself_n.mono ?_
 rintro e w4 ⟨rfl,k4⟩
 have y4:=y3.below k4
 have k5:=hide (grow_step k4 b3)
 have hr:w.heap.size≤w.heap.size+1+1:=by omega
 clear y3 k4 b1 b2 b3 eg
 generalize w.heap.size+1+1=r at*
 have g0:=y4.c0
 have g1:=y4.c1
 have g2:=y4.c2
 have g3:=y4.c3
 have g4:=y4.c4
 have g5:=y4.c5
 have f:=y4.f
 have hfin:=hide (ab_fin y4 kd sd ad ld cd ap np cp sk ak lk ck)
 have kfin:=hide ((((((k5.out.setCell (p:=⟨r,0,none⟩) hr (.int .i64 kd)).setCell (p:=⟨r,1,none⟩) hr (.bool sd)).setCell (p:=⟨r,2,none⟩) hr (.slice ad ld cd)).setCell (p:=⟨r,3,none⟩) hr (.slice ap np cp)).setCell (p:=⟨r,4,none⟩) hr (.bool sk)).setCell (p:=⟨r,5,none⟩) hr (.slice ak lk ck))
 go_wp2_with fail
 refine leaves_cons (f:=106) (args:=#[.pointer (some ⟨r,0,none⟩)]) (by simp) (by simp[go_sem]) ?_
 refine(caught_n ⟨r,0,none⟩ _).mono ?_
 rintro e u' w'' ⟨rfl,rfl,rfl⟩
 refine⟨_,results_cell_row rfl _ _ r 57 _ (0,0) _ rfl hfin.out Tryz.underlying57 rfl k_f,rfl,kfin.out⟩
end Sb
end Nt
namespace Nt
namespace Sb

def IdA (a a':Atm):Prop:=a'=a∧Fit a
theorem idA_fit :TFit IdA:=fun _ _ h=>by rw[h.1];exact h.2
theorem mks_map {w0 wI:World}{pa pm:Nat}{nn kk:Int}{s:St}{F:Nat→Prop}{B:Bl}(hk8:kk≤8)(hps: ∀i,okI s.L i→(ndI s.L i).ps.length≤209716):
  Mks w0 wI F B pa pm 63 #[] #[] (.func (.func 64) #[.agg #[.func (.func 24) #[] #[]]] #[]) nn kk s.L (Pln s.L) (fun x=>decide (x=0∨x=1)) (TuJ IdA) (TuR IdA nn kk):=
 {sg:=fun args w=>by kernel_rfl
  sf:=fun w' x ha hx ho=>(isConstant_n x).mono fun e w2 h=>⟨h.1,by rw[h.2];exact Below.refl _ _⟩
  gk:=fun x hx ho _ k hk=>((her_iff ho).1 hx).2 k hk
  jst:=fun s' x hl hg hx ho hs=>by
   have ho':okI s'.L x:=by obtain⟨t,e⟩:=hl;rw[e];exact okI_app ho
   exact tuj_stay hg ho' fun y hy hk=>⟨rfl,(hg.atm (dn_ok hg.wk ho' hy) hk).1⟩
  mo:=fun L L' i j h1 h2 h3 h4 h5 h6=>tuj_le h1.wk h2.wk h3 h4 h5 h6
  kp:=fun s i ks r h hg hi=>h.kp idA_fit hg hi
  er:=fun s i ks r h hg hi ho hl he=>h.er hg hi ho hl he
  js:=fun s i ks r h hg hi hp ho he=>h.tuj idA_fit hg hi hp ho he
  fn:=fun w' s' F' i x ks ka kc hE' ha ho hG _ hl hN hI hok hkl hkF=>by
   have ho':okI s'.L i:=by obtain⟨t,e⟩:=hl;rw[e];exact okI_app ho
   have hnd:ndI s'.L i=ndI s.L i:=by obtain⟨t,e⟩:=hl;rw[e];exact ndI_app ho
   have hpl:=hG i (dn_self s.L i)
   have hkd:=hE'.v.kinds ho'
   unfold PlnP at hpl
   rw[←hnd]at hpl
   rcases(show(ndI s'.L i).kind=5∨(ndI s'.L i).kind=6∨(ndI s'.L i).kind<5 by omega)with hk|hk|hk
   ·exact remade5 hE' ho' hk hN hI hkl
   ·exact remade6 hE' ho' hk hN hI hkl
   refine remade0 idA_fit hE' ho' hk hk8 hN (fun args w=>by kernel_rfl) fun w2 sd ad ld cd ap np cp sk ak lk ck k2 zd zp zk=> ?_
   have hnum:=hE'.v.numb hE'.k0 ho'
   have h1:=hnum (ndI s'.L i).d (by simp[Nt.nums])
   have h2:=hnum (ndI s'.L i).k (by simp[Nt.nums])
   refine Calls.mono (ask_n (kd:=(ndI s'.L i).kind) (cd:=cd) (cp:=cp) (ck:=ck)) ?_
   rintro e w3 ⟨he,k3⟩
   refine⟨atmN (ndI s'.L i),⟨rfl,(hE'.v.atm ho' hk).1⟩,?_,⟨sd,ad,ld,cd,ap,np,cp,sk,ak,lk,ck,he,zd.below k3,?_,(zp.below k3).mono o_m,zk.below k3,?_⟩,k3⟩
   ·have:=hps i ho
    rw[←hnd]at this
    exact this
   ·rw[zn_limb zd]
    omega
   rw[zn_limb zk]
   omega}
def MpP (nn kk:Int)(w w':World)(e:Ending)(pa pm:Nat)(s:St)(F:Nat→Prop)(id:Int):Prop:=
 ∃r,AO2 w w' e pa pm nn kk F r∧Kp kk s r∧(r.2.2=0→TuJ IdA r.1.L id r.2.1)∧(r.2.2≠0→r.1.er≠0)∧((ndI s.L id).kids= []→¬(id=0∨id=1)→TuR IdA nn kk s id [] r)
theorem map_n {w0 w:World}{pa pm:Nat}{nn kk:Int}{s:St}{F:Nat→Prop}{id:Int}(hE:EA w0 w pa pm nn kk s F)(hk8:kk≤8)(ho:okI s.L id)(hp:Pln s.L id)(hps: ∀i,okI s.L i→(ndI s.L i).ps.length≤209716):
  Calls Tryz.prog 23 #[.pointer (some ⟨pa,0,none⟩),.int .i64 id,.func (.func 24) #[] #[]] w fun e w'=>MpP nn kk w w' e pa pm s F id:=by
 have hL:s.L.length≤2002:=by
  have h1:=hE.g.ln
  have h2:=hE.g.cn
  have h3:=hE.g.n2
  omega
 have hI:I64 id:=by have h1:=ho.1;have h2:=ho.2;unfold I64;omega
 have hm:=hide (missing_n hE.g.ax hE.v hE.k0 hk8 hL ho)
 replace hE:=hide hE
 have hnf: ∀w:World,(binOp BinOp.eql 61 (.func (.func 24) #[] #[]) .nilFunc).run Tryz.prog w= .ok (.bool false) w:=fun _=>by kernel_rfl
 go_enter Tryz.func23,Tryz.ntmps23
 go_wp2_with fail
 refine hm.out.mono ?_
 rintro e w2 ⟨rfl,k2⟩
 have hpn:=hide (plain_n (hE.out.below k2).g.ax hE.out.v.wk o_m ho)
 clear hm
 go_wp2_with fail
 refine hpn.out.mono ?_
 rintro e w3 ⟨b,rfl,hb,k3⟩
 obtain rfl:=hb.2 hp
 clear hb hpn
 have k4:=grow_step k3 k2
 have htu:=hide (turned_n (fun wI (Bb:Bl) _ _=>mks_map (F:=F) (B:=Bb) hk8 hps) (hE.out.below k4) hI ho hp)
 have hres:Hid (∀e w',TnR nn kk (fun x=>decide (x=0∨x=1)) (TuJ IdA) (TuR IdA nn kk) w3 w' e pa pm s F id→MpP nn kk w w' e pa pm s F id):=hide fun e w' ⟨r,h1,h2,h3,h4,h5⟩=>⟨r,ao2_back k4 h1,h2,h3,h4,fun hk hn=>h5 hk (by simpa using hn)⟩
 clear hE hps hp k2 k3 k4
 go_wp2_with fail
 refine htu.out.mono ?_
 rintro e w9 h9
 have h10:=hide (hres.out e w9 h9)
 obtain⟨r,⟨rfl,-⟩,-⟩:=h9
 clear htu hres
 go_wp2_with fail
 refine bodyPost_ret (results_tmp2 rfl _ _ _) rfl ?_
 exact h10.out
end Sb
end Nt
end Go.Proofs.YtbgpddlcfiiiaaaGreatDoor

namespace Go.Proofs.YtbgpddlcfiiiaaaGreatDoor
open Tm At
namespace Nt
namespace Sb

variable {i:Int}{r:St × Int × Int}
def ny1 :Nd:=⟨2,0,[(0,1),(1,-1)],0,0,[]⟩
def ny2 :Nd:=⟨2,0,[(0,1)],-3,0,[]⟩
def sy1 :St:=⟨[cst 0,cst 1,ny1],1,0⟩
def sy2 :St:=⟨[cst 0,cst 1,ny1,ny2],2,0⟩
theorem std_y1 :Std [((0:Int),(1:Int)),(1,-1)]:=⟨by simp,by simp⟩
theorem std_y2 :Std [((0:Int),(1:Int))]:=⟨by simp,by simp⟩
theorem std_y3 :Std [((1:Int),(1:Int))]:=⟨by simp,by simp⟩
theorem form_y1 :formA 2 0 (nz (lays [] [(0,1),(1,-1)])) 0= .inl ⟨2,0,[(0,1),(1,-1)],0⟩:=by rfl
theorem form_y2 :formA 2 0 [(0,1)] (-3)= .inl ⟨2,0,[(0,1)],-3⟩:=by rfl
theorem lim_3 :lim (-3)≤8:=lim_lt.2 (by decide)
theorem act_y1 :actA 2000 8 st0 2 0 [(0,1),(1,-1)] 0=(sy1,2,0):=by
 unfold actA
 rw[form_y1]
 show putE 2000 8 st0 ny1=_
 rw[putE_made (not_in (by simp[st0,cst,ny1])) rfl (by simp[nums,ny1,lim_0,lim_1,lim_m1]) (by decide)]
 rfl
theorem put_y2 :putE 2000 8 sy1 ny2=(sy2,3,0):=by
 rw[putE_made (not_in2 (by simp[sy1,cst,ny1,ny2])) rfl (by
  have:=lim_3
  simp[nums,ny2,lim_0,lim_1]
  omega) (by decide)]
 rfl
theorem fit_y1 :Fit ⟨2,0,[(0,1),(1,-1)],0⟩:=form_fit (ps:=[(0,1),(1,-1)]) form_y1
theorem fit_y2 :Fit ⟨2,0,[(0,1)],-3⟩:=formA_fit std_y2 form_y2
theorem gv_sy1 :Gv 8 sy1.L:=by
 have h:=(kp_put (nn:=2000) (kk:=8) (s:=st0) (n:=ny1) (gv_st0 8) (.inl ⟨_,fit_y1,rfl,by simp⟩)).gv
 rw[putE_made (not_in (by simp[st0,cst,ny1])) rfl (by simp[nums,ny1,lim_0,lim_1,lim_m1]) (by decide)]at h
 exact h
theorem gv_sy2 :Gv 8 sy2.L:=by
 have h:=(kp_put (nn:=2000) (kk:=8) (s:=sy1) (n:=ny2) gv_sy1 (.inl ⟨_,fit_y2,rfl,by simp⟩)).gv
 rw[put_y2]at h
 exact h
theorem ok_y12 :okI sy1.L 2:=⟨by decide,by decide⟩
theorem ok_y22 :okI sy2.L 2:=⟨by decide,by decide⟩
theorem ok_y23 :okI sy2.L 3:=⟨by decide,by decide⟩
theorem ok_y20 :okI sy2.L 0:=⟨by decide,by decide⟩
theorem pln_y12 :Pln sy1.L 2:=(her_iff ok_y12).2 ⟨⟨by decide,by decide⟩,fun _ hz=>absurd hz List.not_mem_nil⟩
theorem pln_y22 :Pln sy2.L 2:=(her_iff ok_y22).2 ⟨⟨by decide,by decide⟩,fun _ hz=>absurd hz List.not_mem_nil⟩
theorem pln_y23 :Pln sy2.L 3:=(her_iff ok_y23).2 ⟨⟨by decide,by decide⟩,fun _ hz=>absurd hz List.not_mem_nil⟩
theorem pln_y20 :Pln sy2.L 0:=(her_iff ok_y20).2 ⟨⟨by decide,by decide⟩,fun _ hz=>absurd hz List.not_mem_nil⟩
theorem tur_atom {T:Atm→Atm→Prop}{nn kk:Int}{s:St}(h:TuR T nn kk s i [] r)(hk:(ndI s.L i).kind=2): ∃a',T (atmN (ndI s.L i)) a'∧r=putE nn kk s (ndA a'):=by
 rcases h with⟨h,_⟩|⟨h,_⟩|⟨h|h,_⟩|⟨_,a',h1,_,h2⟩
 ·rw[hk]at h;cases h
 ·rw[hk]at h;cases h
 ·rw[hk]at h;cases h
 ·rw[hk]at h;cases h
 exact⟨a',h1,h2⟩
theorem tur_put {us:List (Int × Int)}{uk:Int}(hu:us= [(1,1)])(hk:uk=1)(h:TuR (PutA 0 us uk) 2000 8 sy1 2 [] r):r=(sy1,1,0):=by
 subst hu hk
 obtain⟨a',⟨rs,h1,h2,h3⟩,rfl⟩:=tur_atom h rfl
 have e:rs= []:=std_unique h1 std_nil fun u=>by
  rw[h2 u]
  show csum [(1,-1),(1,1*1)] u=0
  simp only[csum]
  split <;> omega
 subst e
 obtain rfl:(⟨1,0,[],0⟩:Atm)=a':=Sum.inl.inj h3
 exact putE_found (i:=1) gv_sy1.uq rfl
theorem tur_i1 (h:TuR (PutA 1 [] 3) 2000 8 sy1 2 [] r):r=(sy2,3,0):=by
 obtain⟨a',⟨rs,h1,h2,h3⟩,rfl⟩:=tur_atom h rfl
 have e:rs= [(0,1)]:=std_unique h1 std_y2 fun u=>h2 u
 subst e
 obtain rfl:(⟨2,0,[(0,1)],-3⟩:Atm)=a':=Sum.inl.inj (form_y2.symm.trans h3)
 exact put_y2
theorem tur_i2 (h:TuR (PutA 0 [] 3) 2000 8 sy2 3 [] r):r=(sy2,0,0):=by
 obtain⟨a',⟨rs,h1,h2,h3⟩,rfl⟩:=tur_atom h rfl
 have e:rs= []:=std_unique h1 std_nil fun u=>h2 u
 subst e
 obtain rfl:(⟨0,0,[],0⟩:Atm)=a':=Sum.inl.inj h3
 exact putE_found (i:=0) gv_sy2.uq rfl
theorem tur_id (h:TuR IdA 2000 8 sy2 2 [] r):r=(sy2,2,0):=by
 obtain⟨a',⟨rfl,_⟩,rfl⟩:=tur_atom h rfl
 exact putE_found (i:=2) gv_sy2.uq rfl
def InvY (t:Nat)(s:St)(c:Int):Prop:=(t=0∧s=sy1∧c=2)∨(t=1∧s=sy2∧c=3)∨(t=2∧s=sy2∧c=0)
theorem stp_y :Stp 8 2000 [(1,3),(0,3)] InvY False where
 pl:=by
  rintro t s c (⟨_,rfl,rfl⟩|⟨_,rfl,rfl⟩|⟨_,rfl,rfl⟩)
  ·exact⟨pln_y12,ok_y12⟩
  ·exact⟨pln_y23,ok_y23⟩
  exact⟨pln_y20,ok_y20⟩
 skip:=by
  rintro t ht s c (⟨rfl,rfl,rfl⟩|⟨rfl,rfl,rfl⟩|⟨rfl,rfl,rfl⟩) hn
  ·exact absurd ((fv_iff ok_y12).2 (.inl ⟨-1,by simp[ndI,sy1,ny1]⟩)) hn
  ·exact absurd ((fv_iff ok_y23).2 (.inl ⟨1,by simp[ndI,sy2,ny2]⟩)) hn
  exact absurd ht (by simp)
 put:=by
  rintro t ht s c r (⟨rfl,rfl,rfl⟩|⟨rfl,rfl,rfl⟩|⟨rfl,rfl,rfl⟩) _ _ _ _ _ hT
  ·have h:=tur_i1 (hT rfl ⟨-1,by simp[ndI,sy1,ny1]⟩)
   subst h
   exact .inr (.inl ⟨rfl,rfl,rfl⟩)
  ·have h:=tur_i2 (hT rfl ⟨1,by simp[ndI,sy2,ny2]⟩)
   subst h
   exact .inr (.inr ⟨rfl,rfl,rfl⟩)
  exact absurd ht (by simp)
 bad:=by
  rintro t ht s c r (⟨rfl,rfl,rfl⟩|⟨rfl,rfl,rfl⟩|⟨rfl,rfl,rfl⟩) _ _ he hT
  ·have h:=tur_i1 (hT rfl ⟨-1,by simp[ndI,sy1,ny1]⟩)
   subst h
   exact he rfl
  ·have h:=tur_i2 (hT rfl ⟨1,by simp[ndI,sy2,ny2]⟩)
   subst h
   exact he rfl
  exact absurd ht (by simp)
theorem ps_y1 (h:okI sy1.L i):(ndI sy1.L i).ps.length≤2:=by
 have h1:=h.1
 have h2:=h.2
 have h3:(sy1.L.length:Int)=3:=rfl
 obtain rfl|rfl|rfl:i=0∨i=1∨i=2:=by omega
 ·decide
 ·decide
 decide
theorem ps_y2 (h:okI sy2.L i):(ndI sy2.L i).ps.length≤2:=by
 have h1:=h.1
 have h2:=h.2
 have h3:(sy2.L.length:Int)=4:=rfl
 obtain rfl|rfl|rfl|rfl:i=0∨i=1∨i=2∨i=3:=by omega
 ·decide
 ·decide
 ·decide
 decide
end Sb
end Nt
end Go.Proofs.YtbgpddlcfiiiaaaGreatDoor

namespace Go.Proofs.YtbgpddlcfiiiaaaGreatDoor
open Go.RowKit Go.Sort Go.Shelf
open Tm At
namespace Nt
namespace Sb

theorem zn_new {W w':World}{B0:Nat}{G:Nat→Prop}{s:Bool}{a:Option Addr}{l c:Nat}{z:Int}(hz:Fresh.Zn B0 W s a l c z)(hG: ∀b,G b→b<B0)(k:ButF G W w'):Zn w' s a l c z:=by
 refine zn_move hz.zn k.size fun b off e h0=>k.block b (zn_lt hz.zn e h0) fun hg=> ?_
 have h1:=hG b hg
 rcases hz.fr with⟨h2,_⟩|⟨b2,xs,h2,h3,_⟩
 ·rw[h2]at e
  cases e
 rw[h2]at e
 cases e
 omega
theorem zn_below {w w':World}{B0:Nat}{s:Bool}{a:Option Addr}{l c:Nat}{z:Int}(h:Fresh.Zn B0 w s a l c z)(k:Below w.heap.size w w'):Fresh.Zn B0 w' s a l c z:=by
 obtain⟨n,h1,h2⟩:=h
 exact⟨n,h1.below k,h2⟩
theorem pr_vals {W:World}{B0 p:Nat}{G:Nat→Prop}{v1 v2:Int}{s1 s2:Bool}{a1 a2:Option Addr}{l1 c1 l2 c2:Nat}{z1 z2:Int}(hrow:W.heap[p]? =some (.cells #[.int .i64 v1,.bool s1,.slice a1 l1 c1,.int .i64 v2,.bool s2,.slice a2 l2 c2] 40 (0,0)))(hp:B0≤p)(hz1:Fresh.Zn B0 W s1 a1 l1 c1 z1)(hl1:l1≤2)(hz2:Fresh.Zn B0 W s2 a2 l2 c2 z2)(hl2:l2≤2)(hv1:I64 v1)(hv2:I64 v2)(hG: ∀b,G b→b<B0)(w':World)(k:ButF G W w'):Pr w' (some ⟨p,0,none⟩) 2 [(v1,z1),(v2,z2)] 2:=by
 have hr:=(k.block p (lt_of_block hrow) fun hg=>by have:=hG p hg;omega).trans hrow
 refine⟨rfl,.inr ⟨p,0,rfl,lt_of_block hr,fun i hi=> ?_⟩⟩
 obtain rfl|rfl:i=0∨i=1:=by simp at hi;omega
 ·exact⟨s1,a1,l1,c1,cell_of_row w' p 0 _ _ (0,0) hr,cell_of_row w' p 1 _ _ (0,0) hr,cell_of_row w' p 2 _ _ (0,0) hr,(zn_new hz1 hG k).zm,hl1,hv1⟩
 exact⟨s2,a2,l2,c2,cell_of_row w' p 3 _ _ (0,0) hr,cell_of_row w' p 4 _ _ (0,0) hr,cell_of_row w' p 5 _ _ (0,0) hr,(zn_new hz2 hG k).zm,hl2,hv2⟩
theorem awake12_n {w:World}(htab:Tab w):Calls Tryz.prog 5 #[] w fun e w'=>e= .returned (.bool true)∧Below w.heap.size w w':=by
 replace htab:=hide htab
 go_enter Tryz.func5,Tryz.ntmps5
 go_wp2_with fail
 refine(new_ag htab.out).mono ?_
 rintro e w1 ⟨pa,pm,F,rfl,hG,hF,hpw,k1⟩
 have hE:Hid (EA w w1 pa pm 2000 8 st0 F):=hide ⟨hG,gv_st0 8,hF,hpw,k1,htab.out,by decide,by decide⟩
 clear hG hF hpw k1 htab
 go_wp2_with fail
 refine(tvar_n (v:=0) (B:=2) (by unfold I64;decide) o_m).mono ?_
 rintro e w2 ⟨ad2,cp2,rs2,rfl,hT2,hr2⟩
 obtain⟨hP2,hZ2,hl2⟩:=hT2.tw
 rw[hr2]at hP2
 replace hE:=hide (hE.out.below hT2.below)
 clear hT2 hr2
 go_wp2_with fail
 refine(tvar_n (v:=1) (B:=2) (by unfold I64;decide) o_m).mono ?_
 rintro e w3 ⟨ad3,cp3,rs3,rfl,hT3,hr3⟩
 obtain⟨hP3,hZ3,hl3⟩:=hT3.tw
 rw[hr3]at hP3
 replace hE:=hide (hE.out.below hT3.below)
 have hsub:=hide (tsub_n (cp:=cp2) (cp2:=cp3) (hP2.below hT3.below) (hZ2.below hT3.below) hl2 hP3 hZ3 hl3 o_m)
 clear hT3 hr3 hP2 hZ2 hl2 hP3 hZ3 hl3
 go_wp2_with fail
 refine hsub.out.mono ?_
 rintro e w4 ⟨ad4,n4,cp4,s4,a4,l4,c4,rs4,rfl,hT4,hn4,hS4,hc4⟩
 obtain⟨hP4,hZ4,hl4⟩:=hT4.tw
 replace hE:=hide (hE.out.below hT4.below)
 have he4:rs4.map Raw.p= [(0,1),(1,-1)]:=std_unique hS4 std_y1 fun v=>hc4 v
 rw[he4]at hP4
 rw[show((0:Int)-0)=0 from rfl]at hZ4
 have hcall:=hide (atom_ao2 (kd:=2) (cp:=cp4) hE.out.g (zn_zero _).zm o_m hP4 hZ4 hl4 o_m o_m hE.out.tab)
 clear hT4 hP4 hZ4 hl4 hS4 hc4 he4 hsub
 go_wp2_with fail
 refine hcall.out.mono ?_
 rintro e w5 ha
 obtain⟨rfl,F5,hE5⟩:=hE.out.step ha act_y1 gv_sy1
 clear ha hcall hE
 replace hE5:=hide hE5
 go_wp2_with fail
 refine(tvar_n (v:=1) (B:=2) (by unfold I64;decide) o_m).mono ?_
 rintro e w6 ⟨ad6,cp6,rs6,rfl,hT6,hr6⟩
 obtain⟨hP6,hZ6,hl6⟩:=hT6.tw
 rw[hr6]at hP6
 replace hE5:=hide (hE5.out.below hT6.below)
 clear hT6 hr6
 go_wp2_with fail
 refine(zof_n 1 (by decide) (by decide) _).mono ?_
 rintro e w7 ⟨s7,a7,l7,c7,rfl,hz7,k7,hl7⟩
 replace hE5:=hide (hE5.out.below k7)
 replace hP6:=hP6.below k7
 replace hZ6:=hZ6.below k7
 clear k7
 have hcn:=hide (tconst_n (B:=8) hz7.zm o_m o_m)
 go_wp2_with fail
 refine hcn.out.mono ?_
 rintro e w8 ⟨s8,a8,l8,c8,rfl,hT8⟩
 obtain⟨hP8,hZ8,hl8⟩:=hT8.tw
 replace hE5:=hide (hE5.out.below hT8.below)
 have hadd:=hide (tadd_n (cp:=cp6) (cp2:=0) ((hP6.below hT8.below).mono o_m) (hZ6.below hT8.below) o_m hP8 hZ8 hl8 o_m)
 clear hcn hT8 hz7 hl7 hP6 hZ6 hl6 hP8 hZ8 hl8
 go_wp2_with fail
 refine hadd.out.mono ?_
 rintro e w9 ⟨ad9,n9,cp9,s9,a9,l9,c9,rs9,rfl,hT9,hn9,hS9,hc9⟩
 obtain⟨hP9,hZ9,hl9⟩:=hT9.tw
 replace hE5:=hide (hE5.out.below hT9.below)
 have he9:rs9.map Raw.p= [(1,1)]:=std_unique hS9 std_y3 fun v=>hc9 v
 rw[he9]at hP9
 rw[show((0:Int)+1)=1 from rfl]at hZ9
 have hput:=hide (put12_n (cpu:=cp9) hE5.out o_m ok_y12 pln_y12 (v:=0) (by unfold I64;decide) hP9 hZ9 hl9 o_m fun i hi=>by have:=ps_y1 hi;omega)
 clear hT9 hP9 hZ9 hl9 hS9 hc9 he9 hadd
 go_wp2_with fail
 refine hput.out.mono ?_
 rintro e w10 ⟨us,r,hus,hcs,ha,-,-,-,hr⟩
 have hr2:=tur_put (std_unique hus std_y3 hcs) rfl (hr rfl ⟨1,by simp[ndI,sy1,ny1]⟩)
 obtain⟨rfl,F10,hE10⟩:=hE5.out.step ha hr2 gv_sy1
 clear ha hput hE5 hus hcs hr hr2
 replace hE10:=hide hE10
 go_wp2_with fail
 refine(Fresh.zof_n (B:=w10.heap.size) 3 (by decide) (by decide) _ (Nat.le_refl _)).mono ?_
 rintro e w11 ⟨s11,a11,l11,c11,rfl,hz11,k11,hl11⟩
 replace hz11:=hide hz11
 replace k11:=hide k11
 go_wp2_with fail
 refine(Fresh.zof_n (B:=w10.heap.size) 3 (by decide) (by decide) _ k11.out.size).mono ?_
 rintro e w12 ⟨s12,a12,l12,c12,rfl,hz12,k12,hl12⟩
 replace hz12:=hide hz12
 replace k12:=hide k12
 have b13:=below_alloc w12 (.cells #[.int .i64 1,.bool s11,.slice a11 l11 c11,.int .i64 0,.bool s12,.slice a12 l12 c12] 40)
 have hrow:=heap_alloc_new w12 (.cells #[.int .i64 1,.bool s11,.slice a11 l11 c11,.int .i64 0,.bool s12,.slice a12 l12 c12] 40)
 have hsz:w10.heap.size≤w12.heap.size:=Nat.le_trans k11.out.size k12.out.size
 have k13:=grow_step b13 (grow_step k12.out k11.out)
 have hfl: ∀b,(b=pm∨F10 b)→b<w10.heap.size:=fun b hb=>hb.elim (fun e=>by rw[e];exact hE10.out.g.mb.lt) fun h=>hE10.out.g.fl b h
 have hins:=hide (inst_n (id:=2) (vc:=2) (B:=2) stp_y (hE10.out.below k13) (by decide) (.inl ⟨rfl,rfl,rfl⟩) (pr_vals hrow hsz (zn_below (zn_below hz11.out k12.out) b13) hl11 (zn_below hz12.out b13) hl12 (by unfold I64;decide) (by unfold I64;decide) hfl) o_m o_m)
 replace hE10:=hide (hE10.out.below k13)
 clear hz11 hz12 k11 k12 k13 b13 hrow hsz hfl hl11 hl12
 go_wp2_with fail
 refine hins.out.mono ?_
 rintro e w14 ⟨r,ha,hkp,hi,her⟩
 have he0:r.2.2=0:=Decidable.byContradiction fun h=>(her h).2
 have hr2:r=(sy2,0,0):=by
  obtain⟨h1,_,_⟩|⟨h1,_,_⟩|⟨_,h2,h3⟩:=hi he0
  ·exact absurd h1 (by decide)
  ·exact absurd h1 (by decide)
  obtain⟨x,y,z⟩:=r
  dsimp only at he0 h2 h3
  rw[he0,h2,h3]
 obtain⟨rfl,F14,hE14⟩:=hE10.out.step ha hr2 gv_sy2
 have hmap:=hide (map_n (id:=2) hE14 (by decide) ok_y22 pln_y22 fun i hi=>by have:=ps_y2 hi;omega)
 clear ha hkp hi her he0 hr2 hins hE10
 replace hE14:=hide hE14
 go_wp2_with fail
 refine hmap.out.mono ?_
 rintro e w15 ⟨r,ha,-,-,-,hr⟩
 have hr2:=tur_id (hr rfl (by decide))
 obtain⟨rfl,F15,hE15⟩:=hE14.out.step ha hr2 gv_sy2
 clear ha hr hr2 hmap hE14
 replace hE15:=hide hE15.k
 go_wp2_with fail
 go_ret
 exact⟨rfl,hE15.out⟩
end Sb
end Nt
namespace Nt
namespace Sb

variable {kk nn:Int}{w0:World}{pa pm vn vc VB:Nat}{s:St}{F:Nat→Prop}{va:Option Addr}{vs:List (Int × Int)}
theorem sum_take (f:Int→Nat): ∀(l:List Int) (t:Nat),((l.take t).map f).sum≤(l.map f).sum
 | [],t=>by simp
 |x::l,0=>by simp
 |x::l,t+1=>by
  have:=sum_take f l t
  simp only[List.take_succ_cons,List.map_cons,List.sum_cons]
  omega
theorem co_pos {L:List Nd}(hg:Gv kk L){i:Int}(hi:okI L i):1≤co L i:=by
 rcases hg.cases hi with⟨_,e⟩|⟨_,e⟩|⟨_,f,_,hf,_,e,_⟩|⟨_,kd,kids,hk,e,h2,_⟩|⟨_,kd,v,x,hk,e,_⟩
 ·rw[co_atm (by rw[e];simp[cst])]
  exact Nat.le_refl 1
 ·rw[co_atm (by rw[e];simp[cst])]
  exact Nat.le_refl 1
 ·rw[co_atm (by rw[e];dsimp only;omega)]
  exact Nat.le_refl 1
 ·rw[co_join hg.wk hi (by rw[e];exact hk),e]
  rcases kids with _|⟨k,ks⟩
  ·simp at h2
  simp only[List.map_cons,List.sum_cons]
  omega
 rw[co_atm (by rw[e];dsimp only;omega)]
 exact Nat.le_refl 1
def TrQ (w:World)(L:List Nd)(vs:List (Int × Int))(id lf:Int)(e:Ending)(w':World):Prop:=
 ∃(b fine:Bool) (r:Int),e= .returned (.tuple #[.bool b,.bool fine,.int .i64 r])∧Below w.heap.size w w'∧(fine=true↔okI L id∧Fin9 L vs id∧(co L id:Int)≤lf)∧(fine=true→(b=true↔tv L (val1 vs) id)∧r=lf-(co L id:Int))
theorem truth_5 (id:Int)(ih: ∀id':Int,okI s.L id'→id'<id→∀lf:Int,-1≤lf→lf≤3000→∀w:World,EA w0 w pa pm nn kk s F→Pr w va vn vs VB→Calls Tryz.prog 10 #[.pointer (some ⟨pa,0,none⟩),.int .i64 id',.slice va vn vc,.int .i64 lf] w (TrQ w s.L vs id' lf))(lf:Int)(hl0:0<lf)(hl1:lf≤3000)(hok:okI s.L id)(hk:(ndI s.L id).kind=5)(w:World)(hE:EA w0 w pa pm nn kk s F)(hV:Pr w va vn vs VB)(_hvn:vn≤16777216)(_hvB:VB≤16777216):Calls Tryz.prog 10 #[.pointer (some ⟨pa,0,none⟩),.int .i64 id,.slice va vn vc,.int .i64 lf] w (TrQ w s.L vs id lf):=by
 have hln:s.L.length≤2002:=by
  have h3:=hE.g.ln
  have h4:=hE.g.cn
  have h5:=hE.g.n2
  omega
 have hnode:=hide (node9_n (B:=1048576) hE.g.ax hE.v hE.k0 (Int.le_trans hE.k8 (by decide)) o_m id)
 have hwk:=hide hE.v.wk
 replace hE:=hide hE
 replace hV:=hide hV
 replace hok:=hide hok
 have hkk:Hid (∀k∈(ndI s.L id).kids,okI s.L k∧k<id):=hide fun k h=>⟨hwk.out.ok hok.out h,(hwk.out id hok.out k h).2⟩
 have hfin9:Hid (Fin9 s.L vs id↔ ∀z∈(ndI s.L id).kids,Fin9 s.L vs z):=hide ((her_iff hok.out).trans ⟨fun h=>h.2,fun h=>⟨⟨by omega,by omega,fun h=>by omega⟩,h⟩⟩)
 have htv:Hid (tv s.L (val1 vs) id↔ ∀z∈(ndI s.L id).kids,tv s.L (val1 vs) z):=hide (tv_and hwk.out hok.out hk)
 have hco:Hid (co s.L id=((ndI s.L id).kids.map fun k=>1+co s.L k).sum):=hide (co_join hwk.out hok.out o_m)
 have hkl:(ndI s.L id).kids.length≤2002:=by
  have h1:=(hE.out.v.kids hok.out).1
  have h2:=hok.out.2
  omega
 replace ih:=hide ih
 go_enter Tryz.func10,Tryz.ntmps10
 go_wp2_with fail
 refine hnode.out.mono ?_
 clear hnode
 rintro e w5 (⟨_,xr,rfl,hN,k5⟩|⟨hno,_⟩)
 rotate_left
 ·exact absurd hok.out hno
 obtain⟨kdn,sd,ad,ld,cd,ap,np,cp,sk,ak,lk,ck,vr,kka,kkn,kkc⟩:=xr
 obtain rfl:kkn=(ndI s.L id).kids.length:=hN.kids.1.symm
 obtain rfl:kdn=5:=hN.kd.trans hk
 have hI:IL w5 kka (ndI s.L id).kids.length (ndI s.L id).kids:=hN.kids
 simp only[nE]
 have b6:=below_alloc w5 (.cells #[.int .i64 5,.bool sd,.slice ad ld cd,.slice ap np cp,.bool sk,.slice ak lk ck,.int .i64 vr,.slice kka (ndI s.L id).kids.length kkc] 69)
 have y6:NB (w5.alloc (.cells #[.int .i64 5,.bool sd,.slice ad ld cd,.slice ap np cp,.bool sk,.slice ak lk ck,.int .i64 vr,.slice kka (ndI s.L id).kids.length kkc] 69)) w5.heap.size 5 sd ad ld cd ap np cp sk ak lk ck vr kka (ndI s.L id).kids.length kkc:=NB.new w5 _ _ _ _ _ _ _ _ _ _ _ _ _ _ _ _
 have k6:=grow_step b6 k5
 have hI6:=hI.below b6
 have u0:=y6.c0
 have u1:=y6.c1
 have u2:=y6.c2
 have u3:=y6.c3
 have u4:=y6.c4
 have u5:=y6.c5
 replace y6:=hide y6
 replace k6:=hide k6
 replace hI6:=hide hI6
 clear hN hI hk
 go_wp2_with fail
 clear b6 k5 u0 u1 u2 u3 u4 u5
 generalize w5.alloc (.cells #[.int .i64 5,.bool sd,.slice ad ld cd,.slice ap np cp,.bool sk,.slice ak lk ck,.int .i64 vr,.slice kka (ndI s.L id).kids.length kkc] 69)=w6 at*
 generalize w5.heap.size=p at*
 generalize hks:(ndI s.L id).kids=ks at*
 clear hks
 go_loopw [3,15,16] (fun lv l i wr=> ∃(t:Nat) (b:Bool) (lr:Int),lv= .int .i64 lr∧0≤lr∧lr≤3000∧Hid (lr=lf-((ks.take t).map fun k=>1+co s.L k).sum)∧t≤ks.length∧l= .bool b∧i= .int .i64 t∧Hid (Below w6.heap.size w6 wr)∧Hid (∀z∈ks.take t,Fin9 s.L vs z)∧Hid (b=true↔ ∀z∈ks.take t,tv s.L (val1 vs) z)) (fun _ _ i _=>ks.length-(intOf i).toNat)
 case atStart=>exact⟨0,true,lf,rfl,by omega,by omega,hide (by simp),Nat.zero_le _,rfl,rfl,hide (Below.refl _ _),hide (by simp),hide (by simp)⟩
 case round=>
  obtain⟨t,b,lr,rfl,hr0,hr1,hlr,ht,rfl,rfl,kr,hfr,hbr⟩:=hrel
  have u7:=(y6.out.below kr.out).c7
  by_cases htn:t<ks.length
  ·rcases(hI6.out.below kr.out).2 with h|⟨b1,o1,rfl,hb1,h1⟩
   ·omega
   obtain⟨e1,i1⟩:=h1 t htn
   have hmem:ks[t]∈ks:=List.getElem_mem htn
   have hk2:=hkk.out ks[t] hmem
   have kw:=grow_step kr.out k6.out
   have hcall:=hide (ih.out ks[t] hk2.1 hk2.2 (lr-1) o_m o_m wr (hE.out.below kw) (hV.out.below kw))
   have hps:Hid (ks.take (t+1)=ks.take t++ [ks[t]]):=hide (List.take_succ_eq_append_getElem htn)
   have hsm:Hid (((ks.take (t+1)).map fun k=>1+co s.L k).sum=((ks.take t).map fun k=>1+co s.L k).sum+(1+co s.L ks[t])∧((ks.take (t+1)).map fun k=>1+co s.L k).sum≤(ks.map fun k=>1+co s.L k).sum):=hide ⟨by rw[hps.out,List.map_append,List.sum_append];simp,sum_take _ ks (t+1)⟩
   replace hmem:=hide hmem
   replace hk2:=hide hk2
   generalize ks[t]=kt at*
   clear h1 i1 hb1 kw
   go_wp2_with fail
   refine hcall.out.mono ?_
   rintro e w7 ⟨b2,f2,l2,rfl,k7,hf2,hb2⟩
   have k67:=hide (grow_step k7 kr.out)
   have k07:=hide (grow_step k67.out k6.out)
   clear hcall e1 u7 kr k7
   rcases f2 with _|_
   ·have hend:Hid (TrQ w s.L vs id lf (.returned (.tuple #[.bool false,.bool false,.int .i64 0])) w7):=hide ⟨false,false,0,rfl,k07.out,⟨(fun h=>by cases h),fun h=>absurd (hf2.2 ⟨hk2.out.1,hfin9.out.1 h.2.1 kt hmem.out,by have h1:=hsm.out;have h2:=hlr.out;have h3:=h.2.2;rw[hco.out]at h3;omega⟩) (by simp)⟩,fun h=>by cases h⟩
    clear hf2 hb2
    go_wp2_with fail
    refine bodyPost_ret (results_tmp3 rfl _ _ _) rfl ?_
    exact hend.out
   have hfz:=(hf2.1 rfl).2.1
   have hcz:=(hf2.1 rfl).2.2
   have hbz:=(hb2 rfl).1
   obtain rfl:=(hb2 rfl).2
   have hl3:0≤lr-1-(co s.L kt:Int)∧lr-1-(co s.L kt:Int)≤3000:=⟨by omega,by omega⟩
   have hlr3:Hid (lr-1-(co s.L kt:Int)=lf-(((ks.take (t+1)).map fun k=>1+co s.L k).sum:Nat)):=hide (by have h1:=hsm.out;have h2:=hlr.out;omega)
   clear hcz
   generalize lr-1-(co s.L kt:Int)=l3 at*
   have v0:=(y6.out.below k67.out).c0
   have hf3:Hid (∀z∈ks.take (t+1),Fin9 s.L vs z):=hide (by
    rw[hps.out]
    intro z hz
    rcases List.mem_append.1 hz with h|h
    ·exact hfr.out z h
    obtain rfl:=List.mem_singleton.1 h
    exact hfz)
   have hb3:Hid (∀b':Bool,b'=(b&&b2)→(b'=true↔ ∀z∈ks.take (t+1),tv s.L (val1 vs) z)):=hide (by
    intro b' hb'
    rw[hps.out,hb',Bool.and_eq_true,hbr.out,hbz]
    simp[List.mem_append,or_imp,forall_and])
   clear hf2 hb2 hfz hbz hbr hfr
   rcases b with _|_ <;> rcases b2 with _|_
   all_goals
    go_wp2_with fail
    exact⟨⟨t+1,_,l3,rfl,hl3.1,hl3.2,hlr3,by omega,rfl,by go_num,k67,hf3,hide (hb3.out _ rfl)⟩,by simp[intOf];omega⟩
  have htk:ks.take t=ks:=List.take_of_length_le o_m
  have kw:=hide (grow_step kr.out k6.out)
  have hend:Hid (TrQ w s.L vs id lf (.returned (.tuple #[.bool b,.bool true,.int .i64 lr])) wr):=hide ⟨b,true,lr,rfl,kw.out,⟨fun _=>⟨hok.out,hfin9.out.2 (by rw[←htk];exact hfr.out),by have h1:=hlr.out;rw[htk,←hco.out]at h1;omega⟩,fun _=>rfl⟩,fun _=>⟨by rw[htv.out,hbr.out,htk],by have h1:=hlr.out;rw[htk,←hco.out]at h1;exact h1⟩⟩
  clear htk hfr hbr hlr
  go_wp2_with fail
  refine bodyPost_ret (results_tmp3 rfl _ _ _) rfl ?_
  exact hend.out
theorem truth_6 (id:Int)(ih: ∀id':Int,okI s.L id'→id'<id→∀lf:Int,-1≤lf→lf≤3000→∀w:World,EA w0 w pa pm nn kk s F→Pr w va vn vs VB→Calls Tryz.prog 10 #[.pointer (some ⟨pa,0,none⟩),.int .i64 id',.slice va vn vc,.int .i64 lf] w (TrQ w s.L vs id' lf))(lf:Int)(hl0:0<lf)(hl1:lf≤3000)(hok:okI s.L id)(hk:(ndI s.L id).kind=6)(w:World)(hE:EA w0 w pa pm nn kk s F)(hV:Pr w va vn vs VB)(_hvn:vn≤16777216)(_hvB:VB≤16777216):Calls Tryz.prog 10 #[.pointer (some ⟨pa,0,none⟩),.int .i64 id,.slice va vn vc,.int .i64 lf] w (TrQ w s.L vs id lf):=by
 have hln:s.L.length≤2002:=by
  have h3:=hE.g.ln
  have h4:=hE.g.cn
  have h5:=hE.g.n2
  omega
 have hnode:=hide (node9_n (B:=1048576) hE.g.ax hE.v hE.k0 (Int.le_trans hE.k8 (by decide)) o_m id)
 have hwk:=hide hE.v.wk
 replace hE:=hide hE
 replace hV:=hide hV
 replace hok:=hide hok
 have hkk:Hid (∀k∈(ndI s.L id).kids,okI s.L k∧k<id):=hide fun k h=>⟨hwk.out.ok hok.out h,(hwk.out id hok.out k h).2⟩
 have hfin9:Hid (Fin9 s.L vs id↔ ∀z∈(ndI s.L id).kids,Fin9 s.L vs z):=hide ((her_iff hok.out).trans ⟨fun h=>h.2,fun h=>⟨⟨by omega,by omega,fun h=>by omega⟩,h⟩⟩)
 have htv:Hid (tv s.L (val1 vs) id↔ ∃z∈(ndI s.L id).kids,tv s.L (val1 vs) z):=hide (tv_or hwk.out hok.out hk)
 have hco:Hid (co s.L id=((ndI s.L id).kids.map fun k=>1+co s.L k).sum):=hide (co_join hwk.out hok.out o_m)
 have hkl:(ndI s.L id).kids.length≤2002:=by
  have h1:=(hE.out.v.kids hok.out).1
  have h2:=hok.out.2
  omega
 replace ih:=hide ih
 go_enter Tryz.func10,Tryz.ntmps10
 go_wp2_with fail
 refine hnode.out.mono ?_
 clear hnode
 rintro e w5 (⟨_,xr,rfl,hN,k5⟩|⟨hno,_⟩)
 rotate_left
 ·exact absurd hok.out hno
 obtain⟨kdn,sd,ad,ld,cd,ap,np,cp,sk,ak,lk,ck,vr,kka,kkn,kkc⟩:=xr
 obtain rfl:kkn=(ndI s.L id).kids.length:=hN.kids.1.symm
 obtain rfl:kdn=6:=hN.kd.trans hk
 have hI:IL w5 kka (ndI s.L id).kids.length (ndI s.L id).kids:=hN.kids
 simp only[nE]
 have b6:=below_alloc w5 (.cells #[.int .i64 6,.bool sd,.slice ad ld cd,.slice ap np cp,.bool sk,.slice ak lk ck,.int .i64 vr,.slice kka (ndI s.L id).kids.length kkc] 69)
 have y6:NB (w5.alloc (.cells #[.int .i64 6,.bool sd,.slice ad ld cd,.slice ap np cp,.bool sk,.slice ak lk ck,.int .i64 vr,.slice kka (ndI s.L id).kids.length kkc] 69)) w5.heap.size 6 sd ad ld cd ap np cp sk ak lk ck vr kka (ndI s.L id).kids.length kkc:=NB.new w5 _ _ _ _ _ _ _ _ _ _ _ _ _ _ _ _
 have k6:=grow_step b6 k5
 have hI6:=hI.below b6
 have u0:=y6.c0
 have u1:=y6.c1
 have u2:=y6.c2
 have u3:=y6.c3
 have u4:=y6.c4
 have u5:=y6.c5
 replace y6:=hide y6
 replace k6:=hide k6
 replace hI6:=hide hI6
 clear hN hI hk
 go_wp2_with fail
 clear b6 k5 u0 u1 u2 u3 u4 u5
 generalize w5.alloc (.cells #[.int .i64 6,.bool sd,.slice ad ld cd,.slice ap np cp,.bool sk,.slice ak lk ck,.int .i64 vr,.slice kka (ndI s.L id).kids.length kkc] 69)=w6 at*
 generalize w5.heap.size=p at*
 generalize hks:(ndI s.L id).kids=ks at*
 clear hks
 go_loopw [3,15,16] (fun lv l i wr=> ∃(t:Nat) (b:Bool) (lr:Int),lv= .int .i64 lr∧0≤lr∧lr≤3000∧Hid (lr=lf-((ks.take t).map fun k=>1+co s.L k).sum)∧t≤ks.length∧l= .bool b∧i= .int .i64 t∧Hid (Below w6.heap.size w6 wr)∧Hid (∀z∈ks.take t,Fin9 s.L vs z)∧Hid (b=true↔ ∃z∈ks.take t,tv s.L (val1 vs) z)) (fun _ _ i _=>ks.length-(intOf i).toNat)
 case atStart=>exact⟨0,false,lf,rfl,by omega,by omega,hide (by simp),Nat.zero_le _,rfl,rfl,hide (Below.refl _ _),hide (by simp),hide (by simp)⟩
 case round=>
  obtain⟨t,b,lr,rfl,hr0,hr1,hlr,ht,rfl,rfl,kr,hfr,hbr⟩:=hrel
  have u7:=(y6.out.below kr.out).c7
  by_cases htn:t<ks.length
  ·rcases(hI6.out.below kr.out).2 with h|⟨b1,o1,rfl,hb1,h1⟩
   ·omega
   obtain⟨e1,i1⟩:=h1 t htn
   have hmem:ks[t]∈ks:=List.getElem_mem htn
   have hk2:=hkk.out ks[t] hmem
   have kw:=grow_step kr.out k6.out
   have hcall:=hide (ih.out ks[t] hk2.1 hk2.2 (lr-1) o_m o_m wr (hE.out.below kw) (hV.out.below kw))
   have hps:Hid (ks.take (t+1)=ks.take t++ [ks[t]]):=hide (List.take_succ_eq_append_getElem htn)
   have hsm:Hid (((ks.take (t+1)).map fun k=>1+co s.L k).sum=((ks.take t).map fun k=>1+co s.L k).sum+(1+co s.L ks[t])∧((ks.take (t+1)).map fun k=>1+co s.L k).sum≤(ks.map fun k=>1+co s.L k).sum):=hide ⟨by rw[hps.out,List.map_append,List.sum_append];simp,sum_take _ ks (t+1)⟩
   replace hmem:=hide hmem
   replace hk2:=hide hk2
   generalize ks[t]=kt at*
   clear h1 i1 hb1 kw
   go_wp2_with fail
   refine hcall.out.mono ?_
   rintro e w7 ⟨b2,f2,l2,rfl,k7,hf2,hb2⟩
   have k67:=hide (grow_step k7 kr.out)
   have k07:=hide (grow_step k67.out k6.out)
   clear hcall e1 u7 kr k7
   rcases f2 with _|_
   ·have hend:Hid (TrQ w s.L vs id lf (.returned (.tuple #[.bool false,.bool false,.int .i64 0])) w7):=hide ⟨false,false,0,rfl,k07.out,⟨(fun h=>by cases h),fun h=>absurd (hf2.2 ⟨hk2.out.1,hfin9.out.1 h.2.1 kt hmem.out,by have h1:=hsm.out;have h2:=hlr.out;have h3:=h.2.2;rw[hco.out]at h3;omega⟩) (by simp)⟩,fun h=>by cases h⟩
    clear hf2 hb2
    go_wp2_with fail
    refine bodyPost_ret (results_tmp3 rfl _ _ _) rfl ?_
    exact hend.out
   have hfz:=(hf2.1 rfl).2.1
   have hcz:=(hf2.1 rfl).2.2
   have hbz:=(hb2 rfl).1
   obtain rfl:=(hb2 rfl).2
   have hl3:0≤lr-1-(co s.L kt:Int)∧lr-1-(co s.L kt:Int)≤3000:=⟨by omega,by omega⟩
   have hlr3:Hid (lr-1-(co s.L kt:Int)=lf-(((ks.take (t+1)).map fun k=>1+co s.L k).sum:Nat)):=hide (by have h1:=hsm.out;have h2:=hlr.out;omega)
   clear hcz
   generalize lr-1-(co s.L kt:Int)=l3 at*
   have v0:=(y6.out.below k67.out).c0
   have hf3:Hid (∀z∈ks.take (t+1),Fin9 s.L vs z):=hide (by
    rw[hps.out]
    intro z hz
    rcases List.mem_append.1 hz with h|h
    ·exact hfr.out z h
    obtain rfl:=List.mem_singleton.1 h
    exact hfz)
   have hb3:Hid (∀b':Bool,b'=(b||b2)→(b'=true↔ ∃z∈ks.take (t+1),tv s.L (val1 vs) z)):=hide (by
    intro b' hb'
    rw[hps.out,hb',Bool.or_eq_true,hbr.out,hbz]
    simp[List.mem_append,or_and_right,exists_or])
   clear hf2 hb2 hfz hbz hbr hfr
   rcases b with _|_ <;> rcases b2 with _|_
   all_goals
    go_wp2_with fail
    exact⟨⟨t+1,_,l3,rfl,hl3.1,hl3.2,hlr3,by omega,rfl,by go_num,k67,hf3,hide (hb3.out _ rfl)⟩,by simp[intOf];omega⟩
  have htk:ks.take t=ks:=List.take_of_length_le o_m
  have kw:=hide (grow_step kr.out k6.out)
  have hend:Hid (TrQ w s.L vs id lf (.returned (.tuple #[.bool b,.bool true,.int .i64 lr])) wr):=hide ⟨b,true,lr,rfl,kw.out,⟨fun _=>⟨hok.out,hfin9.out.2 (by rw[←htk];exact hfr.out),by have h1:=hlr.out;rw[htk,←hco.out]at h1;omega⟩,fun _=>rfl⟩,fun _=>⟨by rw[htv.out,hbr.out,htk],by have h1:=hlr.out;rw[htk,←hco.out]at h1;exact h1⟩⟩
  clear htk hfr hbr hlr
  go_wp2_with fail
  refine bodyPost_ret (results_tmp3 rfl _ _ _) rfl ?_
  exact hend.out
theorem truth_0 (id:Int)(lf:Int)(hl0:0<lf)(hl1:lf≤3000)(hok:okI s.L id)(hk:(ndI s.L id).kind<5)(w:World)(hE:EA w0 w pa pm nn kk s F)(hV:Pr w va vn vs VB)(hvn:vn≤16777216)(hvB:VB≤16777216):Calls Tryz.prog 10 #[.pointer (some ⟨pa,0,none⟩),.int .i64 id,.slice va vn vc,.int .i64 lf] w (TrQ w s.L vs id lf):=by
 have hln:s.L.length≤2002:=by
  have h3:=hE.g.ln
  have h4:=hE.g.cn
  have h5:=hE.g.n2
  omega
 have hnode:=hide (node9_n (B:=1048576) hE.g.ax hE.v hE.k0 (Int.le_trans hE.k8 (by decide)) o_m id)
 have hwk:=hide hE.v.wk
 replace hE:=hide hE
 replace hV:=hide hV
 replace hok:=hide hok
 obtain⟨hfit,hpl2,hnk,-⟩:=hE.out.v.atm hok.out hk
 have hfin9:Hid (Fin9 s.L vs id↔Tot (ndI s.L id).ps vs):=hide ((her_iff hok.out).trans ⟨fun h=>h.1.2.2 hk,fun h=>⟨⟨by omega,by omega,fun _=>h⟩,by rw[hnk];intro z hz;cases hz⟩⟩)
 have htv:Hid (tv s.L (val1 vs) id↔Sat (atmN (ndI s.L id)) (val1 vs)):=hide (tv_atm o_m o_m)
 have hco:Hid (co s.L id=1):=hide (co_atm o_m)
 replace hfit:=hide hfit
 go_enter Tryz.func10,Tryz.ntmps10
 go_wp2_with fail
 refine hnode.out.mono ?_
 clear hnode
 rintro e w5 (⟨_,xr,rfl,hN,k5⟩|⟨hno,_⟩)
 rotate_left
 ·exact absurd hok.out hno
 obtain⟨kdn,sd,ad,ld,cd,ap,np,cp,sk,ak,lk,ck,vr,kka,kkn,kkc⟩:=xr
 obtain rfl:kkn=(ndI s.L id).kids.length:=hN.kids.1.symm
 have hkd:kdn=(ndI s.L id).kind:=hN.kd
 have hI:IL w5 kka (ndI s.L id).kids.length (ndI s.L id).kids:=hN.kids
 simp only[nE]
 have b6:=below_alloc w5 (.cells #[.int .i64 kdn,.bool sd,.slice ad ld cd,.slice ap np cp,.bool sk,.slice ak lk ck,.int .i64 vr,.slice kka (ndI s.L id).kids.length kkc] 69)
 have y6:NB (w5.alloc (.cells #[.int .i64 kdn,.bool sd,.slice ad ld cd,.slice ap np cp,.bool sk,.slice ak lk ck,.int .i64 vr,.slice kka (ndI s.L id).kids.length kkc] 69)) w5.heap.size kdn sd ad ld cd ap np cp sk ak lk ck vr kka (ndI s.L id).kids.length kkc:=NB.new w5 _ _ _ _ _ _ _ _ _ _ _ _ _ _ _ _
 have k6:=grow_step b6 k5
 have hI6:=hI.below b6
 have u0:=y6.c0
 have u1:=y6.c1
 have u2:=y6.c2
 have u3:=y6.c3
 have u4:=y6.c4
 have u5:=y6.c5
 replace y6:=hide y6
 replace k6:=hide k6
 replace hI6:=hide hI6
 have hN6:=NC.below hN b6
 have hnp:np=(ndI s.L id).ps.length:=hN6.pn.1.symm
 have hcall:Hid (Calls Tryz.prog 40 #[.agg #[.int .i64 kdn,.bool sd,.slice ad ld cd,.slice ap np cp,.bool sk,.slice ak lk ck],.slice va vn vc] (w5.alloc (.cells #[.int .i64 kdn,.bool sd,.slice ad ld cd,.slice ap np cp,.bool sk,.slice ak lk ck,.int .i64 vr,.slice kka (ndI s.L id).kids.length kkc] 69)) fun e w'=> ∃b fine:Bool,∃er:Int,e= .returned (.tuple #[.bool b,.int .i64 er])∧(fine=true↔er=0)∧TrQ w s.L vs id lf (.returned (.tuple #[.bool b,.bool fine,.int .i64 (lf-1)])) w'):=hide (by
  refine Calls.mono (aholds_n (B:=1048576) hN6.zd.zm hN6.hld hN6.pn.pn.pr hN6.zk.zm hN6.hlk o_m o_m (hV.out.below k6.out) hvn hvB) ?_
  rintro e w2 ⟨qs,hq1,hq2,hq3,k2⟩
  have hqe:qs=(ndI s.L id).ps:=std_unique hq1 hfit.out.std hq2
  have hform:formA kdn (ndI s.L id).d qs (ndI s.L id).k= .inl (atmN (ndI s.L id)):=by rw[hqe,hkd];exact hfit.out.again
  rw[hform]at hq3
  have kk2:=grow_step k2 k6.out
  rcases hq3 with⟨h1,rfl⟩|⟨h1,b,rfl,h2⟩
  ·exact⟨false,false,170,rfl,by simp,false,false,lf-1,rfl,kk2,⟨(fun h=>by cases h),fun h=>absurd (hfin9.out.1 h.2.1) h1⟩,fun h=>by cases h⟩
  exact⟨b,true,0,rfl,by simp,b,true,lf-1,rfl,kk2,⟨fun _=>⟨hok.out,hfin9.out.2 h1,by rw[hco.out];omega⟩,fun _=>rfl⟩,fun _=>⟨h2.trans htv.out.symm,by rw[hco.out];rfl⟩⟩)
 have h5: ¬kdn=5:=by omega
 have h6: ¬kdn=6:=by omega
 have h7: ¬kdn=7:=by omega
 have h8: ¬kdn=8:=by omega
 have g5:(kdn==5)=false:=beq_eq_false_iff_ne.2 h5
 have g6:(kdn==6)=false:=beq_eq_false_iff_ne.2 h6
 have g7:(kdn==7)=false:=beq_eq_false_iff_ne.2 h7
 have g8:(kdn==8)=false:=beq_eq_false_iff_ne.2 h8
 have n5:(kdn !=5)=true:=bne_iff_ne.2 h5
 have n6:(kdn !=6)=true:=bne_iff_ne.2 h6
 clear hN hN6 hI hk hkd hnp hpl2 hnk
 go_wp2_with fail
 refine hcall.out.mono ?_
 rintro e w7 ⟨b,fine,er,rfl,hfe,hend⟩
 replace hend:=hide hend
 clear hcall u0 u1 u2 u3 u4 u5
 rcases fine with _|_
 ·have her: ¬er=0:=fun h=>by cases hfe.2 h
  have ger:(er==0)=false:=beq_eq_false_iff_ne.2 her
  clear hfe
  go_wp2_with fail
  refine bodyPost_ret (results_tmp3 rfl _ _ _) rfl ?_
  exact hend.out
 obtain rfl:er=0:=hfe.1 rfl
 clear hfe
 go_wp2_with fail
 refine bodyPost_ret (results_tmp3 rfl _ _ _) rfl ?_
 exact hend.out
theorem truth_7 (id:Int)(lf:Int)(hok:okI s.L id)(hk:(ndI s.L id).kind=7)(w:World)(hE:EA w0 w pa pm nn kk s F):Calls Tryz.prog 10 #[.pointer (some ⟨pa,0,none⟩),.int .i64 id,.slice va vn vc,.int .i64 lf] w (TrQ w s.L vs id lf):=by
 have hln:s.L.length≤2002:=by
  have h3:=hE.g.ln
  have h4:=hE.g.cn
  have h5:=hE.g.n2
  omega
 have hnode:=hide (node9_n (B:=1048576) hE.g.ax hE.v hE.k0 (Int.le_trans hE.k8 (by decide)) o_m id)
 have hwk:=hide hE.v.wk
 replace hE:=hide hE
 replace hok:=hide hok
 have hno:Hid (¬Fin9 s.L vs id):=hide fun h=>by
  have h1:=((her_iff hok.out).1 h).1
  exact h1.1 hk
 go_enter Tryz.func10,Tryz.ntmps10
 go_wp2_with fail
 refine hnode.out.mono ?_
 clear hnode
 rintro e w5 (⟨_,xr,rfl,hN,k5⟩|⟨hno,_⟩)
 rotate_left
 ·exact absurd hok.out hno
 obtain⟨kdn,sd,ad,ld,cd,ap,np,cp,sk,ak,lk,ck,vr,kka,kkn,kkc⟩:=xr
 obtain rfl:kkn=(ndI s.L id).kids.length:=hN.kids.1.symm
 obtain rfl:kdn=7:=hN.kd.trans hk
 have hI:IL w5 kka (ndI s.L id).kids.length (ndI s.L id).kids:=hN.kids
 simp only[nE]
 have b6:=below_alloc w5 (.cells #[.int .i64 7,.bool sd,.slice ad ld cd,.slice ap np cp,.bool sk,.slice ak lk ck,.int .i64 vr,.slice kka (ndI s.L id).kids.length kkc] 69)
 have y6:NB (w5.alloc (.cells #[.int .i64 7,.bool sd,.slice ad ld cd,.slice ap np cp,.bool sk,.slice ak lk ck,.int .i64 vr,.slice kka (ndI s.L id).kids.length kkc] 69)) w5.heap.size 7 sd ad ld cd ap np cp sk ak lk ck vr kka (ndI s.L id).kids.length kkc:=NB.new w5 _ _ _ _ _ _ _ _ _ _ _ _ _ _ _ _
 have k6:=grow_step b6 k5
 have hI6:=hI.below b6
 have u0:=y6.c0
 have u1:=y6.c1
 have u2:=y6.c2
 have u3:=y6.c3
 have u4:=y6.c4
 have u5:=y6.c5
 replace y6:=hide y6
 replace k6:=hide k6
 replace hI6:=hide hI6
 have hend:Hid (TrQ w s.L vs id lf (.returned (.tuple #[.bool false,.bool false,.int .i64 0])) (w5.alloc (.cells #[.int .i64 7,.bool sd,.slice ad ld cd,.slice ap np cp,.bool sk,.slice ak lk ck,.int .i64 vr,.slice kka (ndI s.L id).kids.length kkc] 69))):=hide ⟨false,false,0,rfl,k6.out,⟨(fun h=>by cases h),fun h=>absurd h.2.1 hno.out⟩,fun h=>by cases h⟩
 clear hN hI hk b6 k5
 go_wp2_with fail
 refine bodyPost_ret (results_tmp3 rfl _ _ _) rfl ?_
 exact hend.out
theorem truth_8 (id:Int)(lf:Int)(hok:okI s.L id)(hk:(ndI s.L id).kind=8)(w:World)(hE:EA w0 w pa pm nn kk s F):Calls Tryz.prog 10 #[.pointer (some ⟨pa,0,none⟩),.int .i64 id,.slice va vn vc,.int .i64 lf] w (TrQ w s.L vs id lf):=by
 have hln:s.L.length≤2002:=by
  have h3:=hE.g.ln
  have h4:=hE.g.cn
  have h5:=hE.g.n2
  omega
 have hnode:=hide (node9_n (B:=1048576) hE.g.ax hE.v hE.k0 (Int.le_trans hE.k8 (by decide)) o_m id)
 have hwk:=hide hE.v.wk
 replace hE:=hide hE
 replace hok:=hide hok
 have hno:Hid (¬Fin9 s.L vs id):=hide fun h=>by
  have h1:=((her_iff hok.out).1 h).1
  exact h1.2.1 hk
 go_enter Tryz.func10,Tryz.ntmps10
 go_wp2_with fail
 refine hnode.out.mono ?_
 clear hnode
 rintro e w5 (⟨_,xr,rfl,hN,k5⟩|⟨hno,_⟩)
 rotate_left
 ·exact absurd hok.out hno
 obtain⟨kdn,sd,ad,ld,cd,ap,np,cp,sk,ak,lk,ck,vr,kka,kkn,kkc⟩:=xr
 obtain rfl:kkn=(ndI s.L id).kids.length:=hN.kids.1.symm
 obtain rfl:kdn=8:=hN.kd.trans hk
 have hI:IL w5 kka (ndI s.L id).kids.length (ndI s.L id).kids:=hN.kids
 simp only[nE]
 have b6:=below_alloc w5 (.cells #[.int .i64 8,.bool sd,.slice ad ld cd,.slice ap np cp,.bool sk,.slice ak lk ck,.int .i64 vr,.slice kka (ndI s.L id).kids.length kkc] 69)
 have y6:NB (w5.alloc (.cells #[.int .i64 8,.bool sd,.slice ad ld cd,.slice ap np cp,.bool sk,.slice ak lk ck,.int .i64 vr,.slice kka (ndI s.L id).kids.length kkc] 69)) w5.heap.size 8 sd ad ld cd ap np cp sk ak lk ck vr kka (ndI s.L id).kids.length kkc:=NB.new w5 _ _ _ _ _ _ _ _ _ _ _ _ _ _ _ _
 have k6:=grow_step b6 k5
 have hI6:=hI.below b6
 have u0:=y6.c0
 have u1:=y6.c1
 have u2:=y6.c2
 have u3:=y6.c3
 have u4:=y6.c4
 have u5:=y6.c5
 replace y6:=hide y6
 replace k6:=hide k6
 replace hI6:=hide hI6
 have hend:Hid (TrQ w s.L vs id lf (.returned (.tuple #[.bool false,.bool false,.int .i64 0])) (w5.alloc (.cells #[.int .i64 8,.bool sd,.slice ad ld cd,.slice ap np cp,.bool sk,.slice ak lk ck,.int .i64 vr,.slice kka (ndI s.L id).kids.length kkc] 69))):=hide ⟨false,false,0,rfl,k6.out,⟨(fun h=>by cases h),fun h=>absurd h.2.1 hno.out⟩,fun h=>by cases h⟩
 clear hN hI hk b6 k5
 go_wp2_with fail
 refine bodyPost_ret (results_tmp3 rfl _ _ _) rfl ?_
 exact hend.out
theorem truth_z (id:Int)(lf:Int)(hl0:lf≤0)(hok:okI s.L id)(hk:(ndI s.L id).kind≠7∧(ndI s.L id).kind≠8)(w:World)(hE:EA w0 w pa pm nn kk s F):Calls Tryz.prog 10 #[.pointer (some ⟨pa,0,none⟩),.int .i64 id,.slice va vn vc,.int .i64 lf] w (TrQ w s.L vs id lf):=by
 have hln:s.L.length≤2002:=by
  have h3:=hE.g.ln
  have h4:=hE.g.cn
  have h5:=hE.g.n2
  omega
 have hnode:=hide (node9_n (B:=1048576) hE.g.ax hE.v hE.k0 (Int.le_trans hE.k8 (by decide)) o_m id)
 have hwk:=hide hE.v.wk
 replace hE:=hide hE
 replace hok:=hide hok
 have hc1:=hide (co_pos hE.out.v hok.out)
 have hno:Hid (¬(co s.L id:Int)≤lf):=hide (by have:=hc1.out;omega)
 go_enter Tryz.func10,Tryz.ntmps10
 go_wp2_with fail
 refine hnode.out.mono ?_
 clear hnode
 rintro e w5 (⟨_,xr,rfl,hN,k5⟩|⟨hno,_⟩)
 rotate_left
 ·exact absurd hok.out hno
 obtain⟨kdn,sd,ad,ld,cd,ap,np,cp,sk,ak,lk,ck,vr,kka,kkn,kkc⟩:=xr
 obtain rfl:kkn=(ndI s.L id).kids.length:=hN.kids.1.symm
 have hkd:kdn=(ndI s.L id).kind:=hN.kd
 have hI:IL w5 kka (ndI s.L id).kids.length (ndI s.L id).kids:=hN.kids
 simp only[nE]
 have b6:=below_alloc w5 (.cells #[.int .i64 kdn,.bool sd,.slice ad ld cd,.slice ap np cp,.bool sk,.slice ak lk ck,.int .i64 vr,.slice kka (ndI s.L id).kids.length kkc] 69)
 have y6:NB (w5.alloc (.cells #[.int .i64 kdn,.bool sd,.slice ad ld cd,.slice ap np cp,.bool sk,.slice ak lk ck,.int .i64 vr,.slice kka (ndI s.L id).kids.length kkc] 69)) w5.heap.size kdn sd ad ld cd ap np cp sk ak lk ck vr kka (ndI s.L id).kids.length kkc:=NB.new w5 _ _ _ _ _ _ _ _ _ _ _ _ _ _ _ _
 have k6:=grow_step b6 k5
 have hI6:=hI.below b6
 have u0:=y6.c0
 have u1:=y6.c1
 have u2:=y6.c2
 have u3:=y6.c3
 have u4:=y6.c4
 have u5:=y6.c5
 replace y6:=hide y6
 replace k6:=hide k6
 replace hI6:=hide hI6
 have hend:Hid (TrQ w s.L vs id lf (.returned (.tuple #[.bool false,.bool false,.int .i64 0])) (w5.alloc (.cells #[.int .i64 kdn,.bool sd,.slice ad ld cd,.slice ap np cp,.bool sk,.slice ak lk ck,.int .i64 vr,.slice kka (ndI s.L id).kids.length kkc] 69))):=hide ⟨false,false,0,rfl,k6.out,⟨(fun h=>by cases h),fun h=>absurd h.2.2 (Int.not_le.2 hno.out)⟩,fun h=>by cases h⟩
 have h7: ¬kdn=7:=by omega
 have h8: ¬kdn=8:=by omega
 have g7:(kdn==7)=false:=beq_eq_false_iff_ne.2 h7
 have g8:(kdn==8)=false:=beq_eq_false_iff_ne.2 h8
 clear hN hI hk hkd b6 k5
 go_wp2_with fail
 refine bodyPost_ret (results_tmp3 rfl _ _ _) rfl ?_
 exact hend.out
theorem truth12_n (hvn:vn≤16777216)(hvB:VB≤16777216): ∀(N:Nat) (id:Int),id<(N:Int)→okI s.L id→∀lf:Int,-1≤lf→lf≤3000→∀w:World,EA w0 w pa pm nn kk s F→Pr w va vn vs VB→Calls Tryz.prog 10 #[.pointer (some ⟨pa,0,none⟩),.int .i64 id,.slice va vn vc,.int .i64 lf] w (TrQ w s.L vs id lf)
 |0,id,h,ho,_,_,_,_,_,_=>absurd ho.1 o_m
 |N+1,id,h,ho,lf,h0,h1,w,hE,hV=>by
  by_cases h7:(ndI s.L id).kind=7
  ·exact truth_7 id lf ho h7 w hE
  by_cases h8:(ndI s.L id).kind=8
  ·exact truth_8 id lf ho h8 w hE
  by_cases hl:lf≤0
  ·exact truth_z id lf hl ho ⟨h7,h8⟩ w hE
  have hk:=hE.v.kinds ho
  rcases(show(ndI s.L id).kind=5∨(ndI s.L id).kind=6∨(ndI s.L id).kind<5 by omega)with hk|hk|hk
  ·exact truth_5 id (fun id' h2 h3 lf' h4 h5 w' hE' hV'=>truth12_n hvn hvB N id' o_m h2 lf' h4 h5 w' hE' hV') lf o_m h1 ho hk w hE hV hvn hvB
  ·exact truth_6 id (fun id' h2 h3 lf' h4 h5 w' hE' hV'=>truth12_n hvn hvB N id' o_m h2 lf' h4 h5 w' hE' hV') lf o_m h1 ho hk w hE hV hvn hvB
  exact truth_0 id lf o_m h1 ho hk w hE hV hvn hvB
end Sb
end Nt
end Go.Proofs.YtbgpddlcfiiiaaaGreatDoor

namespace Go.Proofs.YtbgpddlcfiiiaaaGreatDoor
open Go.RowKit Go.Sort Go.Shelf
open Tm At
open Nt Sb

theorem xp_len (m:Mk):(nz (lays [] m.xp)).length≤m.xp.length:=std_len (std_lays m.xp) fun v=>csum_nzl m.xp v
theorem substMeans_walk {w:World}{ad1:Option Addr}{n1 c1:Nat}{R1:List Mk}{BL:Nat}{id v:Int}{ap:Option Addr}{np cp:Nat}{s:Bool}{a:Option Addr}{l c:Nat}{ps:List (Int × Int)}{k:Int}{BT:Nat}{va:Option Addr}{vn vc:Nat}{vs:List (Int × Int)}{BV:Nat}(h1:ML w ad1 n1 R1 BL)(hS: ∀m∈R1,Sm m)(hn1:n1≤1048576)(hBL:BL≤1048576)(hid:I64 id)(hv:I64 v)(hP:Pr w ap np ps BT)(hz:Zm w s a l c k)(hl:l≤BT)(hV:Pr w va vn vs BV)(hvn:vn≤1048576)(hcv:va=none→vn=0∧vc=0)(hB:BT+BV≤1048576)(hnp:np≤209715)(hfew: ∀m∈R1,(nz (lays [] m.xp)).length+np≤209716)(htab:Tab w):
  Calls Tryz.prog 3 #[.slice ad1 n1 c1,.int .i64 id,.int .i64 v,.agg #[.slice ap np cp,.bool s,.slice a l c],.slice va vn vc] w fun e w'=>e= .returned (.bool true)∧Below w.heap.size w w':=by
 have b0:=below_alloc w (.cells #[.slice ap np cp,.bool s,.slice a l c] 28)
 have x0:TB (w.alloc (.cells #[.slice ap np cp,.bool s,.slice a l c] 28)) w.heap.size ap np cp s a l c:=heap_alloc_new w _
 have haw:=hide (awake12_n (htab.below b0))
 replace hS:=hide hS
 replace hV:=hide hV
 replace hP:=hide hP
 replace hz:=hide hz
 replace h1:=hide h1
 replace hfew:=hide hfew
 replace htab:=hide htab
 replace hcv:=hide hcv
 go_enter Tryz.func3,Tryz.ntmps3
 go_wp2_with fail
 refine haw.out.mono ?_
 rintro e w1 ⟨rfl,k1⟩
 have x1:=x0.below k1
 have kw1:=grow_step k1 b0
 have ht1:=hide (htab.out.below kw1)
 clear haw x0 b0 k1
 replace x1:=hide x1
 go_wp2_with fail
 refine(new_ag ht1.out).mono ?_
 rintro e w2 ⟨pa,pm,Fa,rfl,hGa,hFa,hpm,k2⟩
 have k12:=hide (grow_step k2 kw1)
 have x2:=hide (x1.out.below k2)
 have s1:=kw1.size
 have hxw:w.heap.size<w1.heap.size:=x1.out.lt
 replace hGa:=hide hGa
 have iA:Hid (∀b,Fa b→w1.heap.size≤b):=hide hFa
 have iW:Hid (∀b,Fa b→w.heap.size≤b):=hide fun b hb=>by have:=hFa b hb;omega
 have hpw:w.heap.size≤pm:=by omega
 have hp2:=hGa.out.mb.lt
 clear kw1 k2 ht1 hFa s1 x1
 go_wp2_with fail
 refine(S12.built_n (nn:=2000) (kk:=8) (s:=st0) hGa.out iW.out hpw (by decide) h1.out hn1 hBL k12.out htab.out).mono ?_
 rintro e w3 ⟨ax,cx,F3,rfl,hIx,hfx,hG3,hF3,hB3⟩
 have hrun:=hide (gv_run (R:=R1.take 40) fun m hm=>hS.out m (List.mem_of_mem_take hm))
 have hlen:=run_len 2000 8 (R1.take 40) (st0,[0,1])
 have hl40:(R1.take 40).length≤40:=by rw[List.length_take];omega
 have hne:Hid ((runW 2000 8 (st0,[0,1]) (R1.take 40)).2≠ []):=hide (run_gs (nn:=2000) (kk:=8) (R1.take 40) (st0_gs 8) (st0_in 0 0) fun m hm=>hS.out m (List.mem_of_mem_take hm)).2.1
 have hfw:Hid (Few (209716-np) (runW 2000 8 (st0,[0,1]) (R1.take 40)).1.L):=hide (run_few (R1.take 40) (few_st0 _) fun m hm=>by have:=hfew.out m (List.mem_of_mem_take hm);omega)
 generalize runW 2000 8 (st0,[0,1]) (R1.take 40)=ra at*
 obtain⟨q,ids⟩:=ra
 dsimp only at*
 have hE3:Hid (EA w w3 pa pm 2000 8 q F3):=hide ⟨hG3,hrun.out.1,fun b hb=>(hF3 b hb).elim (iW.out b) fun h=>Nat.le_trans k12.out.size h,hpw,k12.out.trans (hB3.below (fun b hb=>hb.elim (fun e=>by omega) (iW.out b)) k12.out.size),htab.out,by decide,by decide⟩
 have x3:Hid (TB w3 w.heap.size ap np cp s a l c):=hide ((hB3.block w.heap.size x2.out.lt fun hb=>hb.elim (fun e=>by omega) fun h=>by have:=iA.out _ h;omega).trans x2.out)
 have hl2:ids.length≤1000:=by simp at hlen;omega
 have hl0:0<ids.length:=List.length_pos_iff.2 hne.out
 replace hIx:=hide hIx
 clear hGa iA iW hp2 hB3 hF3 hG3 hfx hlen hl40 hS h1 k12 htab x2 hfew
 go_wp2_with fail
 refine(pick_n hid o_m).mono ?_
 rintro e w4 ⟨rfl,rfl⟩
 have hpk:=pick_lt id (n:=(ids.length:Int)) o_m
 obtain⟨j,hj⟩: ∃j:Nat,pick id (ids.length:Int)=(j:Int):=⟨(pick id (ids.length:Int)).toNat,by omega⟩
 rw[hj]at hpk ⊢
 have hjl:j<ids.length:=by omega
 obtain⟨ib,io,rfl,hib,hic⟩: ∃b off,ax=some ⟨b,off,none⟩∧b<w4.heap.size∧∀i (h:i<ids.length),w4.cell? ⟨b,off+i,none⟩=some (.int .i64 ids[i])∧I64 ids[i]:=by
  rcases hIx.out.2 with h|h
  ·omega
  exact h
 obtain⟨e1,i1⟩:=hic j hjl
 have hok:Hid (okI q.L ids[j]):=hide (hrun.out.2 _ (List.getElem_mem hjl))
 generalize ids[j]=n at*
 have t0:=x3.out.c0
 have t1:=x3.out.c1
 have t2:=x3.out.c2
 have hEv:=hide (eval_f (F0:=w4.heap.size) (B:=max BT BV) (cp:=cp) (cp2:=vc) (Nat.le_refl _) ((hP.out.below hE3.out.k).mono (Nat.le_max_left _ _)) (hz.out.below hE3.out.k) o_m ((hV.out.below hE3.out.k).mono (Nat.le_max_right _ _)) o_m)
 clear hic hpk hj hIx
 go_wp2_with fail
 refine hEv.out.mono ?_
 rintro e w5 ⟨sm,am,lm,cm,er,rfl,k5,hcase⟩
 clear hEv t0 t1 t2 e1
 rcases hcase with⟨hnT,rfl,rfl,rfl,rfl,rfl⟩|⟨hT,rfl,hzm,-,hif⟩
 ·have kf:=hide (below_alloc' (grow_step k5 hE3.out.k) (.cells #[.bool false,.slice none 0 0] 26))
  go_wp2_with fail
  go_ret
  exact⟨rfl,kf.out⟩
 have hE5:=hide (hE3.out.below k5)
 have x5:=hide (x3.out.below k5)
 have hlm:lm≤1048577:=by
  rw[zn_limb hzm]
  refine Nat.le_trans (lim_ev (BT:=BT) (BV:=BV) ?_ ?_ ?_ ?_) o_m
  ·exact Nat.le_trans (zm_lim hz.out) hl
  ·exact pr_lims hP.out
  ·exact pr_lims hV.out
  have:=hP.out.1
  omega
 generalize hmv:k+ev ps (val1 vs)=m at*
 replace hmv:=hide hmv
 have hfl3:Hid (∀b,(b=pm∨F3 b)→b<w4.heap.size∧w.heap.size≤b):=hide fun b hb=>hb.elim (fun e=>by rw[e];exact⟨hE3.out.g.mb.lt,hE3.out.p⟩) fun h=>⟨hE3.out.g.fl b h,hE3.out.f b h⟩
 clear hE3 x3
 have b6:=below_alloc w5 (.cells #[.bool sm,.slice am lm cm] 26)
 have hX:Hid ((w5.alloc (.cells #[.bool sm,.slice am lm cm] 26)).heap.size=w5.heap.size+1):=hide (by simp)
 have hap:=hide (append_valsS (w0:=w) (X:=w5.alloc (.cells #[.bool sm,.slice am lm cm] 26)) (s:=sm) (a:=am) (l:=lm) (c:=cm) (B:=1048577) (z:=m) (cp:=vc) hX.out hlm hv (hV.out.mono o_m) (grow_step b6 hE5.out.k) o_m hcv.out)
 have hzm6:=hide (hzm.below b6)
 have s45:=k5.size
 replace b6:=hide b6
 clear hzm k5
 go_wp2_with(at_builtin;refine wpList_append_run rfl _ _ 29 rfl _ _ rfl rfl _ (hap.out _) ?_;rintro v' w6 ⟨k6,adw,cpw,rfl,hWst⟩)
 clear hap
 have k56:=grow_step k6 b6.out
 have hE6:=hide (hE5.out.below k56)
 have x6:=hide (x5.out.below k56)
 have s56:=k56.size
 have sX:=hX.out
 have hzm7:=hide (hzm6.out.below k6)
 have hWs:Hid (∀W:World,w6.heap.size≤W.heap.size→(∀b,b<w6.heap.size→¬(b=pm∨F3 b)→W.heap[b]? =w6.heap[b]?)→Below w.heap.size w W→Pr W adw (1+vn) ((v,m)::vs) 1048577):=hide fun W hs hb hw=>by
  refine hWst W (fun b h1 h2=>hb b h2 fun h=> ?_) hw (zn_move hzm7.out hs fun b off e h0=>hb b (zn_lt hzm7.out e h0) fun h=> ?_).zm
  ·have:=(hfl3.out b h).1
   omega
  have:=(hfl3.out b h).1
  have:=hif b off e h0
  omega
 have hVw:=hide (hWs.out w6 (Nat.le_refl _) (fun _ _ _=>rfl) hE6.out.k)
 clear hE5 x5 hWst hX b6 k6 k56 hzm6 hif hzm7
 have htr:=hide (truth12_n (vc:=cpw) (VB:=1048577) (show 1+vn≤16777216 by omega) (by decide) (n.toNat+1) n (by have:=hok.out.1;omega) hok.out 3000 (by decide) (by decide) w6 hE6.out hVw.out)
 clear hVw
 refine htr.out.mono ?_
 rintro e w7 ⟨b1,f1,r1,rfl,k7,hf1,hb1⟩
 clear htr
 have hE7:=hide (hE6.out.below k7)
 have x7:=hide (x6.out.below k7)
 rcases f1 with _|_
 ·have kf:=hide hE7.out.k
  clear hf1 hb1
  go_wp2_with fail
  go_ret
  exact⟨rfl,kf.out⟩
 obtain⟨-,hfin,hco⟩:=hf1.1 rfl
 have hbt:=(hb1 rfl).1
 replace hbt:=hide hbt
 replace hfin:=hide hfin
 replace hco:=hide hco
 have s67:=k7.size
 replace k7:=hide k7
 clear hf1 hb1 hE6 x6
 have t0:=x7.out.c0
 have t1:=x7.out.c1
 have t2:=x7.out.c2
 have hput:=hide (put12_n (B:=BT) (cpu:=cp) hE7.out (by decide) hok.out (fin_pln hfin.out) hv (hP.out.below hE7.out.k) (hz.out.below hE7.out.k) hl o_m fun i hi=>by have:=hfw.out.nd hi;omega)
 go_wp2_with fail
 refine hput.out.mono ?_
 rintro e w8 ⟨us,⟨s8,o8,e8⟩,hus,hcs,ha8,hk8,hT8,her8,-⟩
 obtain⟨F8,hE8,hF8⟩:=hE7.out.next ha8 hk8.gv
 obtain⟨rfl,-,-,-,hb8⟩:=ha8
 clear hput t0 t1 t2
 dsimp only at*
 have hok8:Hid (okI s8.L n):=hide (hk8.okI hok.out)
 have hfin8:Hid (Fin9 s8.L ((v,m)::vs) n):=hide ((fin_le hrun.out.1.wk hk8.le hok.out).2 hfin.out)
 have hco8:Hid ((co s8.L n:Int)≤3000):=hide (by rw[co_le hrun.out.1.wk hk8.gv.wk hk8.le hok.out];exact hco.out)
 have hbt8:Hid (b1=true↔tv s8.L (val1 ((v,m)::vs)) n):=hide (by rw[tv_le hrun.out.1.wk hk8.gv.wk hk8.le hok.out];exact hbt.out)
 have s78:=hb8.size
 have hVi: ∀W,ButF (fun b=>b=pm∨F8 b) w8 W→Pr W adw (1+vn) ((v,m)::vs) 1048577:=fun W kb=>by
  have kbs:=kb.size
  refine hWs.out W o_m (fun b h1 h2=> ?_) (hE8.k.trans (kb.below (fun b hb=>hb.elim (fun e=>by rw[e];exact hE8.p) (hE8.f b)) hE8.k.size))
  rw[kb.block b o_m fun h=>h.elim (fun e=>h2 (.inl e)) fun h=>(hF8 b h).elim (fun h=>h2 (.inr h)) fun h=>by omega,hb8.block b o_m h2]
  exact k7.out.block b h1
 have hins:=hide (inst_n (vc:=cpw) (stp_i (kk:=8) (nn:=2000) (s0:=s8) (n:=n) (vs:=(v,m)::vs)) hE8 (by decide) (invI_0 hk8.gv hok8.out (fin_pln hfin8.out)) hVi (by decide) o_m)
 have hend8:Hid (e8=0→okI s8.L o8∧Fin9 s8.L vs o8∧(co s8.L o8:Int)≤3000∧(tv s8.L (val1 vs) o8↔b1=true)):=hide fun he=>by
  have hJ:=hT8 he
  obtain⟨h1,h2⟩:=put_end hk8.gv hok8.out hus hcs hT hmv.out.symm hfin8.out hJ
  have h3:=hJ.co
  have h4:=hco8.out
  exact⟨hk8.ok he,h1,by omega,h2.trans hbt8.out.symm⟩
 replace her8:=hide her8
 have hgv8:=hide hk8.gv
 replace hE8:=hide hE8
 clear hVi hWs hT8 hk8 hus hcs hb8 hF8 hE7 x7 hbt hfin hco hT
 go_wp2_with fail
 refine hins.out.mono ?_
 rintro e w9 ⟨⟨s9,o9,e9⟩,ha9,hk9,hi9,her9⟩
 obtain⟨F9,hE9,-⟩:=hE8.out.next ha9 hk9.gv
 obtain⟨rfl,-⟩:=ha9
 dsimp only at*
 have hend9:Hid (e9=0→okI s9.L o9∧Fin9 s9.L [] o9∧(co s9.L o9:Int)≤3000∧(tv s9.L (val1 []) o9↔b1=true)):=hide fun he=>by
  have hI:=hi9 he
  obtain⟨h1,h2⟩:=inst_end hgv8.out hok8.out hfin8.out hI
  have h3:=hI.co
  have h4:=hco8.out
  exact⟨hI.ok,h1,by omega,h2.trans hbt8.out.symm⟩
 have hend89:Hid (e8=0→okI s9.L o8∧Fin9 s9.L vs o8∧(co s9.L o8:Int)≤3000∧(tv s9.L (val1 vs) o8↔b1=true)):=hide fun he=>by
  obtain⟨h1,h2,h3,h4⟩:=hend8.out he
  exact⟨hk9.okI h1,(fin_le hgv8.out.wk hk9.le h1).2 h2,by rw[co_le hgv8.out.wk hk9.gv.wk hk9.le h1];exact h3,by rw[tv_le hgv8.out.wk hk9.gv.wk hk9.le h1];exact h4⟩
 have herr:Hid (e8≠0∨e9≠0→s9.er≠0):=hide fun h=>h.elim (fun h=>hk9.er (her8.out h)) fun h=>(her9 h).1
 have kf9:=hide hE9.k
 clear hins hend8 her8 hi9 her9 hk9 hgv8 hE8 hok8 hfin8 hco8 hbt8
 by_cases hee:e8=0∧e9=0
 ·obtain⟨rfl,rfl⟩:=hee
  obtain⟨y1,y2,y3,y4⟩:=hend9.out rfl
  obtain⟨z1,z2,z3,z4⟩:=hend89.out rfl
  have htx:=hide (truth12_n (vc:=vc) (VB:=1048577) (show vn≤16777216 by omega) (by decide) (o8.toNat+1) o8 (by have:=z1.1;omega) z1 3000 (by decide) (by decide) w9 hE9 ((hV.out.below hE9.k).mono o_m))
  replace hE9:=hide hE9
  clear hend9 hend89 herr
  replace y4:=hide y4
  replace z4:=hide z4
  replace y2:=hide y2
  replace z2:=hide z2
  go_wp2_with fail
  refine htx.out.mono ?_
  rintro e w10 ⟨b2,f2,r2,rfl,k10,hf2,hb2⟩
  obtain rfl:=hf2.2 ⟨z1,z2.out,z3⟩
  have hb2':=hide ((hb2 rfl).1.trans z4.out)
  have hty:=hide (truth12_n (va:=none) (vn:=0) (vc:=0) (vs:=[]) (VB:=1) (by decide) (by decide) (o9.toNat+1) o9 (by have:=y1.1;omega) y1 3000 (by decide) (by decide) w10 (hE9.out.below k10) ⟨rfl,.inl rfl⟩)
  have kf10:=hide (grow_step k10 kf9.out)
  clear htx hf2 hb2 k10 kf9 z4 z2
  go_wp2_with fail
  refine hty.out.mono ?_
  rintro e w11 ⟨b3,f3,r3,rfl,k11,hf3,hb3⟩
  obtain rfl:=hf3.2 ⟨y1,y2.out,y3⟩
  have hb3':=hide ((hb3 rfl).1.trans y4.out)
  have kf11:=hide (grow_step k11 kf10.out)
  obtain rfl:b2=b1:=Bool.eq_iff_iff.2 hb2'.out
  obtain rfl:b3=b2:=Bool.eq_iff_iff.2 hb3'.out
  clear hty hf3 hb3 k11 kf10 hb2' hb3' y4 y2 hE9
  cases b3
  ·go_wp2_with fail
   go_ret
   exact⟨rfl,kf11.out⟩
  go_wp2_with fail
  go_ret
  exact⟨rfl,kf11.out⟩
 have her:=herr.out o_m
 have hmt:=hide (meter8_n hE9.g.ax)
 have hov:=hide (over_n hE9.g.mb hE9.g.c0 (by have:=hE9.g.cn;have:=hE9.g.n2;omega) hE9.g.e0 hE9.g.e2)
 have ner:(s9.er !=0)=true:=bne_iff_ne.2 her
 clear hend9 hend89 herr hE9
 by_cases h8:e8=0
 ·have n8:(e8 !=0)=false:=by rw[h8];rfl
  have h9: ¬e9=0:=fun h=>hee ⟨h8,h⟩
  have n9:(e9 !=0)=true:=bne_iff_ne.2 h9
  go_wp2_with fail
  refine hmt.out.mono ?_
  rintro e w10 ⟨rfl,rfl⟩
  clear hmt
  go_wp2_with fail
  refine hov.out.mono ?_
  rintro e w11 ⟨rfl,k11⟩
  have kf11:=hide (grow_step k11 kf9.out)
  clear hov k11
  go_wp2_with fail
  go_ret
  exact⟨rfl,kf11.out⟩
 have n8:(e8 !=0)=true:=bne_iff_ne.2 h8
 go_wp2_with fail
 refine hmt.out.mono ?_
 rintro e w10 ⟨rfl,rfl⟩
 clear hmt
 go_wp2_with fail
 refine hov.out.mono ?_
 rintro e w11 ⟨rfl,k11⟩
 have kf11:=hide (grow_step k11 kf9.out)
 clear hov k11
 go_wp2_with fail
 go_ret
 exact⟨rfl,kf11.out⟩
end Go.Proofs.YtbgpddlcfiiiaaaGreatDoor
