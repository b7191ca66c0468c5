/-
 Several texts in one: U6,U7,U8,U9,UA,UB,UC,UD,UE,UG,UM,UO,UP.
-/
import Derived.Test.YtbgpddlcfiiiaaaGreatDoorSbm41
import Derived.Laws.EntriesVeiled
import Derived.Test.YtbgpddlcfiiiaaaGreatDoorSbm38
import Derived.Test.YtbgpddlcfiiiaaaGreatDoorSbm25
import Derived.Test.YtbgpddlcfiiiaaaGreatDoorSbm39
import Derived.Test.YtbgpddlcfiiiaaaGreatDoorSbm21
import Derived.Test.YtbgpddlcfiiiaaaGreatDoorSbm22
import Derived.Test.YtbgpddlcfiiiaaaGreatDoorSbm40
set_option maxRecDepth 100000
set_option maxHeartbeats 6400000
namespace Go.Proofs.YtbgpddlcfiiiaaaGreatDoor
open Go.RowKit Go.Sort Go.Shelf
open Tm At
namespace Nt
namespace Sb

def TnR (nn kk:Int)(st:Int→Bool)(J:List Nd→Int→Int→Prop)(FR:St→Int→List Int→St × Int × Int→Prop)(w w':World)(e:Ending)(pa pm:Nat)(s:St)(F:Nat→Prop)(id:Int):Prop:=
 ∃r,AO2 w w' e pa pm nn kk F r∧Kp kk s r∧(r.2.2=0→J r.1.L id r.2.1)∧(r.2.2≠0→r.1.er≠0)∧((ndI s.L id).kids= []→st id=false→FR s id [] r)
theorem turned_n {w0 w:World}{pa pm KS KT:Nat}{rs cs rt ct:Array Value}{nn kk:Int}{G:Int→Prop}{st:Int→Bool}{J:List Nd→Int→Int→Prop}{FR:St→Int→List Int→St × Int × Int→Prop}{s:St}{F:Nat→Prop}{id:Int}(hM: ∀wI (B:Bl),Below w.heap.size w wI→w.heap.size≤B.bm→Mks w0 wI F B pa pm KS rs cs (.func (.func KT) rt ct) nn kk s.L G st J FR)(hE:EA w0 w pa pm nn kk s F)(hI:I64 id)(ho:okI s.L id)(hGi:G id):
  Calls Tryz.prog 46 #[.pointer (some ⟨pa,0,none⟩),.int .i64 id,.func (.func KS) rs cs,.func (.func KT) rt ct] w fun e w'=>TnR nn kk st J FR w w' e pa pm s F id:=by
 have hmk:=run_makeMap (P:=Tryz.prog) 147 (((w.alloc (.cells #[.pointer (some ⟨pa,0,none⟩)] 31)).alloc (.cells #[.func (.func KS) rs cs] 94)).alloc (.cells #[.func (.func KT) rt ct] 61))
 have z1:(w.alloc (.cells #[.pointer (some ⟨pa,0,none⟩)] 31)).heap.size=w.heap.size+1:=by simp
 have z2:((w.alloc (.cells #[.pointer (some ⟨pa,0,none⟩)] 31)).alloc (.cells #[.func (.func KS) rs cs] 94)).heap.size=w.heap.size+1+1:=by simp
 have z3:(((w.alloc (.cells #[.pointer (some ⟨pa,0,none⟩)] 31)).alloc (.cells #[.func (.func KS) rs cs] 94)).alloc (.cells #[.func (.func KT) rt ct] 61)).heap.size=w.heap.size+1+1+1:=by simp
 have z4:((((w.alloc (.cells #[.pointer (some ⟨pa,0,none⟩)] 31)).alloc (.cells #[.func (.func KS) rs cs] 94)).alloc (.cells #[.func (.func KT) rt ct] 61)).alloc (.map #[] 0)).heap.size=w.heap.size+1+1+1+1:=by simp
 have z5:(((((w.alloc (.cells #[.pointer (some ⟨pa,0,none⟩)] 31)).alloc (.cells #[.func (.func KS) rs cs] 94)).alloc (.cells #[.func (.func KT) rt ct] 61)).alloc (.map #[] 0)).alloc (.cells #[.map (some (w.heap.size+1+1+1))] 147)).heap.size=w.heap.size+1+1+1+1+1:=by simp
 have z6:((((((w.alloc (.cells #[.pointer (some ⟨pa,0,none⟩)] 31)).alloc (.cells #[.func (.func KS) rs cs] 94)).alloc (.cells #[.func (.func KT) rt ct] 61)).alloc (.map #[] 0)).alloc (.cells #[.map (some (w.heap.size+1+1+1))] 147)).alloc (.cells #[.func (.func 83) #[] #[.pointer (some ⟨w.heap.size+1,0,none⟩),.pointer (some ⟨w.heap.size+1+1+1+1,0,none⟩),.pointer (some ⟨w.heap.size,0,none⟩),.pointer (some ⟨w.heap.size+1+1+1+1+1,0,none⟩),.pointer (some ⟨w.heap.size+1+1,0,none⟩)]] 148)).heap.size=w.heap.size+1+1+1+1+1+1:=by simp
 have c1:=heap_alloc_new w (.cells #[.pointer (some ⟨pa,0,none⟩)] 31)
 have c2:=heap_alloc_new (w.alloc (.cells #[.pointer (some ⟨pa,0,none⟩)] 31)) (.cells #[.func (.func KS) rs cs] 94)
 have c3:=heap_alloc_new ((w.alloc (.cells #[.pointer (some ⟨pa,0,none⟩)] 31)).alloc (.cells #[.func (.func KS) rs cs] 94)) (.cells #[.func (.func KT) rt ct] 61)
 have c4:((((w.alloc (.cells #[.pointer (some ⟨pa,0,none⟩)] 31)).alloc (.cells #[.func (.func KS) rs cs] 94)).alloc (.cells #[.func (.func KT) rt ct] 61)).alloc (.map #[] 0)).ownsMap Tryz.prog 3 (plainElem Tryz.prog 3) (((w.alloc (.cells #[.pointer (some ⟨pa,0,none⟩)] 31)).alloc (.cells #[.func (.func KS) rs cs] 94)).alloc (.cells #[.func (.func KT) rt ct] 61)).heap.size 0 (.map []:DataW Value):=World.ownsMap_made _ _ _ _
 have c5:=heap_alloc_new ((((w.alloc (.cells #[.pointer (some ⟨pa,0,none⟩)] 31)).alloc (.cells #[.func (.func KS) rs cs] 94)).alloc (.cells #[.func (.func KT) rt ct] 61)).alloc (.map #[] 0)) (.cells #[.map (some (w.heap.size+1+1+1))] 147)
 have c6:=heap_alloc_new (((((w.alloc (.cells #[.pointer (some ⟨pa,0,none⟩)] 31)).alloc (.cells #[.func (.func KS) rs cs] 94)).alloc (.cells #[.func (.func KT) rt ct] 61)).alloc (.map #[] 0)).alloc (.cells #[.map (some (w.heap.size+1+1+1))] 147)) (.cells #[.func (.func 83) #[] #[.pointer (some ⟨w.heap.size+1,0,none⟩),.pointer (some ⟨w.heap.size+1+1+1+1,0,none⟩),.pointer (some ⟨w.heap.size,0,none⟩),.pointer (some ⟨w.heap.size+1+1+1+1+1,0,none⟩),.pointer (some ⟨w.heap.size+1+1,0,none⟩)]] 148)
 have b1:=below_alloc w (.cells #[.pointer (some ⟨pa,0,none⟩)] 31)
 have b2:=below_alloc (w.alloc (.cells #[.pointer (some ⟨pa,0,none⟩)] 31)) (.cells #[.func (.func KS) rs cs] 94)
 have b3:=below_alloc ((w.alloc (.cells #[.pointer (some ⟨pa,0,none⟩)] 31)).alloc (.cells #[.func (.func KS) rs cs] 94)) (.cells #[.func (.func KT) rt ct] 61)
 have b4:=below_alloc (((w.alloc (.cells #[.pointer (some ⟨pa,0,none⟩)] 31)).alloc (.cells #[.func (.func KS) rs cs] 94)).alloc (.cells #[.func (.func KT) rt ct] 61)) (.map #[] 0)
 have b5:=below_alloc ((((w.alloc (.cells #[.pointer (some ⟨pa,0,none⟩)] 31)).alloc (.cells #[.func (.func KS) rs cs] 94)).alloc (.cells #[.func (.func KT) rt ct] 61)).alloc (.map #[] 0)) (.cells #[.map (some (w.heap.size+1+1+1))] 147)
 have b6:=below_alloc (((((w.alloc (.cells #[.pointer (some ⟨pa,0,none⟩)] 31)).alloc (.cells #[.func (.func KS) rs cs] 94)).alloc (.cells #[.func (.func KT) rt ct] 61)).alloc (.map #[] 0)).alloc (.cells #[.map (some (w.heap.size+1+1+1))] 147)) (.cells #[.func (.func 83) #[] #[.pointer (some ⟨w.heap.size+1,0,none⟩),.pointer (some ⟨w.heap.size+1+1+1+1,0,none⟩),.pointer (some ⟨w.heap.size,0,none⟩),.pointer (some ⟨w.heap.size+1+1+1+1+1,0,none⟩),.pointer (some ⟨w.heap.size+1+1,0,none⟩)]] 148)
 rw[z1]at c2
 rw[z2]at c3
 rw[z3]at c4
 rw[z4]at c5
 rw[z5]at c6
 have k5:=b6
 have k4:=grow_step k5 b5
 have k3:=grow_step k4 b4
 have k2:=grow_step k3 b3
 have k1:=grow_step k2 b2
 have k0:=grow_step k1 b1
 have d1:=(k1.block (w.heap.size) o_m).trans c1
 have d2:=(k2.block (w.heap.size+1) o_m).trans c2
 have d3:=(k3.block (w.heap.size+1+1) o_m).trans c3
 have d4:=c4.kept (gb_none k4) (by simp)
 have d5:=(k5.block (w.heap.size+1+1+1+1) o_m).trans c5
 clear c1 c2 c3 c4 c5 b1 b2 b3 b4 b5 b6 k1 k2 k3 k4 k5 z1 z2 z3 z4 z5
 replace c6:=hide c6
 replace d1:=hide d1
 replace d2:=hide d2
 replace d3:=hide d3
 replace d4:=hide d4
 replace d5:=hide d5
 replace k0:=hide k0
 replace z6:=hide z6
 go_enter Tryz.func46,Tryz.ntmps46
 go_wp2_with fail
 clear hmk
 generalize ((((((w.alloc (.cells #[.pointer (some ⟨pa,0,none⟩)] 31)).alloc (.cells #[.func (.func KS) rs cs] 94)).alloc (.cells #[.func (.func KT) rt ct] 61)).alloc (.map #[] 0)).alloc (.cells #[.map (some (w.heap.size+1+1+1))] 147)).alloc (.cells #[.func (.func 83) #[] #[.pointer (some ⟨w.heap.size+1,0,none⟩),.pointer (some ⟨w.heap.size+1+1+1+1,0,none⟩),.pointer (some ⟨w.heap.size,0,none⟩),.pointer (some ⟨w.heap.size+1+1+1+1+1,0,none⟩),.pointer (some ⟨w.heap.size+1+1,0,none⟩)]] 148))=w5 at*
 have hlt:=hE.g.mb.lt
 have hfl:=hE.g.fl
 have hkw:=hE.k.size
 have hvar: ∀b,Bl.var ⟨w.heap.size+1,w.heap.size+1+1+1+1,w.heap.size,w.heap.size+1+1+1+1+1,w.heap.size+1+1,w.heap.size+1+1+1⟩ b→w.heap.size≤b:=fun b hb=>by
  unfold Bl.var at hb
  dsimp only at hb
  omega
 have hCS:CS w0 w5 F ⟨w.heap.size+1,w.heap.size+1+1+1+1,w.heap.size,w.heap.size+1+1+1+1+1,w.heap.size+1+1,w.heap.size+1+1+1⟩ pa pm (.func (.func KS) rs cs) (.func (.func KT) rt ct) nn kk s.L J w5 s F [] (.map []):=
  {
   x:=⟨rfl,rfl,rfl,Nat.le_refl _,fun _ _ _=>rfl⟩
   f0:=fun b hb=> .inl hb
   l0:=⟨[],by simp⟩
   e:=hE.below k0.out
   b:=⟨d2.out,d5.out,d1.out,c6.out,d3.out⟩
   m:=d4.out
   nF:=fun b hb=>by
    rcases hb with hb|rfl
    ·have h:=hvar b hb
     exact⟨fun hf=>by have:=hfl b hf;omega,by omega⟩
    exact⟨fun hf=>by have:=hfl _ hf;dsimp only at this;omega,by dsimp only;omega⟩
   nm:=fun hb=>by
    unfold Bl.var at hb
    dsimp only at hb
    omega
   bl:=by have:=z6.out;dsimp only;omega
   b0:=by dsimp only;omega
   d:=fun x _=>by simp[Maps.has]
   j:=fun x hx=>absurd hx List.not_mem_nil
   nd:=List.nodup_nil}
 refine(come_n (hM w5 ⟨w.heap.size+1,w.heap.size+1+1+1+1,w.heap.size,w.heap.size+1+1+1+1+1,w.heap.size+1+1,w.heap.size+1+1+1⟩ k0.out (by dsimp only;omega)) (id.toNat+1) id o_m hI ho hGi w5 s F [] (.map []) hCS).mono ?_
 rintro e w6 ⟨r,F',Sn',D',rfl,hC6,hK6,hJ6,-,hf6,hb6,hE6,hl6⟩
 have hfin:Hid (TnR nn kk st J FR w w6 (.returned (.tuple #[.int .i64 r.2.1,.int .i64 r.2.2])) pa pm s F id):=hide ⟨r,⟨rfl,F',hC6.e.g,fun b hb=>(hf6 b hb).imp (fun h=>h) (fun h=>by have:=k0.out.size;omega),ButF.trans (butF_below k0.out) hb6 fun b hb hg=>by
  rcases hg with hg|hg|hg
  ·exact .inl hg
  ·exact .inr hg
  dsimp only at hg
  omega⟩,hK6,hJ6,hE6,fun h1 h2=>hl6 h1 h2 List.not_mem_nil⟩
 clear hC6 hK6 hJ6 hf6 hb6 hl6 hE6 hCS hvar c6 d1 d2 d3 d4 d5 k0 hE hM
 generalize r.2.1=y at*
 generalize r.2.2=er at*
 go_wp2_with fail
 refine bodyPost_ret (results_tmp2 rfl _ _ _) rfl ?_
 exact hfin.out
end Sb
end Nt
namespace Nt
namespace Sb

variable {nn kk:Int}{s:St}{T:Atm→Atm→Prop}
theorem actA_fit {a:Atm}(h:Fit a):actA nn kk s a.kind a.d a.ps a.k=putE nn kk s (ndA a):=by
 unfold actA
 rw[←lays_eq h.std fun _=>rfl,h.again]
 rfl
def AtB (w:World)(e:Ending)(a:Atm)(B:Nat):Prop:=
 ∃sd ad ld cd ap np cp sk ak lk ck,e= .returned (.agg #[.int .i64 a.kind,.bool sd,.slice ad ld cd,.slice ap np cp,.bool sk,.slice ak lk ck])∧Zn w sd ad ld cd a.d∧ld≤B∧Pn w ap np a.ps B∧Zn w sk ak lk ck a.k∧lk≤B
theorem remade5 {w0 w:World}{pa pm:Nat}{tf:Value}{F:Nat→Prop}{i:Int}{x:NR}{ks:List Int}{ka:Option Addr}{kc:Nat}(hE:EA w0 w pa pm nn kk s F)(hi:okI s.L i)(hk:(ndI s.L i).kind=5)(hN:NC (fun _=>True) w x (ndI s.L i) 1048576)(hI:IL w ka ks.length ks)(hkl:ks.length=(ndI s.L i).kids.length):
  Calls Tryz.prog 84 #[.pointer (some ⟨pa,0,none⟩),.agg (nE x),.slice ka ks.length kc,tf] w fun e w'=> ∃r,TuR T nn kk s i ks r∧AO2 w w' e pa pm nn kk F r:=by
 obtain⟨kd,sd,ad,ld,cd,ap,np,cp,sk,ak,lk,ck,vr,kka,kkn,kkc⟩:=x
 obtain rfl:kd=5:=hN.kd.trans hk
 have b1:=below_alloc w (.cells #[.int .i64 5,.bool sd,.slice ad ld cd,.slice ap np cp,.bool sk,.slice ak lk ck,.int .i64 vr,.slice kka kkn kkc] 69)
 have y1:NB (w.alloc (.cells #[.int .i64 5,.bool sd,.slice ad ld cd,.slice ap np cp,.bool sk,.slice ak lk ck,.int .i64 vr,.slice kka kkn kkc] 69)) w.heap.size 5 sd ad ld cd ap np cp sk ak lk ck vr kka kkn kkc:=NB.new w _ _ _ _ _ _ _ _ _ _ _ _ _ _ _ _
 have hE1:=hE.below b1
 have hI1:=hI.below b1
 have hksl:ks.length≤2002:=by
  have h1:=(hE.v.kids hi).1
  have h2:=hi.2
  have h3:=hE.g.ln
  have h4:=hE.g.cn
  have h5:=hE.g.n2
  omega
 replace b1:=hide b1
 simp only[nE]
 have hcall:=hide (and9_n (kc:=kc) hE1.g hE1.v hE1.k0 (by have:=hE1.k8;omega) hI1 o_m hE1.tab)
 have hend:Hid (∀e w',SJ (w.alloc (.cells #[.int .i64 5,.bool sd,.slice ad ld cd,.slice ap np cp,.bool sk,.slice ak lk ck,.int .i64 vr,.slice kka kkn kkc] 69)) w' e pa pm nn kk F s 5 6 1 0 1 ks→∃r,TuR T nn kk s i ks r∧AO2 w w' e pa pm nn kk F r):=hide fun e w' ⟨r,h1,h2⟩=>⟨r,.inl ⟨hk,h1⟩,ao2_back b1.out h2⟩
 have g0:=y1.c0
 clear hE hE1 hN hI hI1 hk hkl
 go_enter Tryz.func84,Tryz.ntmps84
 go_wp2_with fail
 refine hcall.out.mono ?_
 rintro e w2 h2
 have h3:=hide (hend.out e w2 h2)
 obtain⟨r,-,rfl,-⟩:=h2
 clear hcall hend
 go_wp2_with fail
 refine bodyPost_ret (results_tmp2 rfl _ _ _) rfl ?_
 exact h3.out
theorem remade6 {w0 w:World}{pa pm:Nat}{tf:Value}{F:Nat→Prop}{i:Int}{x:NR}{ks:List Int}{ka:Option Addr}{kc:Nat}(hE:EA w0 w pa pm nn kk s F)(hi:okI s.L i)(hk:(ndI s.L i).kind=6)(hN:NC (fun _=>True) w x (ndI s.L i) 1048576)(hI:IL w ka ks.length ks)(hkl:ks.length=(ndI s.L i).kids.length):
  Calls Tryz.prog 84 #[.pointer (some ⟨pa,0,none⟩),.agg (nE x),.slice ka ks.length kc,tf] w fun e w'=> ∃r,TuR T nn kk s i ks r∧AO2 w w' e pa pm nn kk F r:=by
 obtain⟨kd,sd,ad,ld,cd,ap,np,cp,sk,ak,lk,ck,vr,kka,kkn,kkc⟩:=x
 obtain rfl:kd=6:=hN.kd.trans hk
 have b1:=below_alloc w (.cells #[.int .i64 6,.bool sd,.slice ad ld cd,.slice ap np cp,.bool sk,.slice ak lk ck,.int .i64 vr,.slice kka kkn kkc] 69)
 have y1:NB (w.alloc (.cells #[.int .i64 6,.bool sd,.slice ad ld cd,.slice ap np cp,.bool sk,.slice ak lk ck,.int .i64 vr,.slice kka kkn kkc] 69)) w.heap.size 6 sd ad ld cd ap np cp sk ak lk ck vr kka kkn kkc:=NB.new w _ _ _ _ _ _ _ _ _ _ _ _ _ _ _ _
 have hE1:=hE.below b1
 have hI1:=hI.below b1
 have hksl:ks.length≤2002:=by
  have h1:=(hE.v.kids hi).1
  have h2:=hi.2
  have h3:=hE.g.ln
  have h4:=hE.g.cn
  have h5:=hE.g.n2
  omega
 replace b1:=hide b1
 simp only[nE]
 have hcall:=hide (or9_n (kc:=kc) hE1.g hE1.v hE1.k0 (by have:=hE1.k8;omega) hI1 o_m hE1.tab)
 have hend:Hid (∀e w',SJ (w.alloc (.cells #[.int .i64 6,.bool sd,.slice ad ld cd,.slice ap np cp,.bool sk,.slice ak lk ck,.int .i64 vr,.slice kka kkn kkc] 69)) w' e pa pm nn kk F s 6 5 0 1 (-1) ks→∃r,TuR T nn kk s i ks r∧AO2 w w' e pa pm nn kk F r):=hide fun e w' ⟨r,h1,h2⟩=>⟨r,.inr (.inl ⟨hk,h1⟩),ao2_back b1.out h2⟩
 have g0:=y1.c0
 clear hE hE1 hN hI hI1 hk hkl
 go_enter Tryz.func84,Tryz.ntmps84
 go_wp2_with fail
 refine hcall.out.mono ?_
 rintro e w2 h2
 have h3:=hide (hend.out e w2 h2)
 obtain⟨r,-,rfl,-⟩:=h2
 clear hcall hend
 go_wp2_with fail
 refine bodyPost_ret (results_tmp2 rfl _ _ _) rfl ?_
 exact h3.out
theorem remade0 (hT:TFit T){w0 w:World}{pa pm KT:Nat}{rt ct:Array Value}{nn kk:Int}{s:St}{F:Nat→Prop}{i:Int}{x:NR}{ks:List Int}{ka:Option Addr}{kc:Nat}(hE:EA w0 w pa pm nn kk s F)(hi:okI s.L i)(hk:(ndI s.L i).kind<5)(hk8:kk≤8)(hN:NC (fun _=>True) w x (ndI s.L i) 1048576)
  (tg: ∀args w,(callFunc KT args).run Tryz.prog w= .ok (.enter KT args) w)
  (ht: ∀w' sd ad ld cd ap np cp sk ak lk ck,Below w.heap.size w w'→Zn w' sd ad ld cd (ndI s.L i).d→Pn w' ap np (ndI s.L i).ps 8→Zn w' sk ak lk ck (ndI s.L i).k→Calls Tryz.prog KT (rt.push (.agg #[.int .i64 (ndI s.L i).kind,.bool sd,.slice ad ld cd,.slice ap np cp,.bool sk,.slice ak lk ck])++ct) w' fun e w2=> ∃a',T (atmN (ndI s.L i)) a'∧a'.ps.length≤209716∧AtB w2 e a' 1500000∧Below w'.heap.size w' w2):
  Calls Tryz.prog 84 #[.pointer (some ⟨pa,0,none⟩),.agg (nE x),.slice ka ks.length kc,.func (.func KT) rt ct] w fun e w'=> ∃r,TuR T nn kk s i ks r∧AO2 w w' e pa pm nn kk F r:=by
 obtain⟨kd,sd,ad,ld,cd,ap,np,cp,sk,ak,lk,ck,vr,kka,kkn,kkc⟩:=x
 have hke:kd=(ndI s.L i).kind:=hN.kd
 have b1:=below_alloc w (.cells #[.int .i64 kd,.bool sd,.slice ad ld cd,.slice ap np cp,.bool sk,.slice ak lk ck,.int .i64 vr,.slice kka kkn kkc] 69)
 have y1:NB (w.alloc (.cells #[.int .i64 kd,.bool sd,.slice ad ld cd,.slice ap np cp,.bool sk,.slice ak lk ck,.int .i64 vr,.slice kka kkn kkc] 69)) w.heap.size kd sd ad ld cd ap np cp sk ak lk ck vr kka kkn kkc:=NB.new w _ _ _ _ _ _ _ _ _ _ _ _ _ _ _ _
 have hE1:=hE.below b1
 simp only[nE]
 have hnum: ∀p∈(ndI s.L i).ps,lim p.2≤8:=fun p hp=>by
  have:=hE.v.numb hE.k0 hi p.2 (by unfold Nt.nums;exact List.mem_cons_of_mem _ (List.mem_cons_of_mem _ (List.mem_map_of_mem hp)))
  omega
 have h5: ¬kd=5:=by omega
 have h6: ¬kd=6:=by omega
 have h7: ¬kd=7:=by omega
 have h8: ¬kd=8:=by omega
 have g0:=y1.c0
 have g1:=y1.c1
 have g2:=y1.c2
 have g3:=y1.c3
 have g4:=y1.c4
 have g5:=y1.c5
 have hN1:=NC.below hN b1
 have hcall:=ht _ sd ad ld cd ap np cp sk ak lk ck b1 hN1.zd (pn_limb hN1.pn.pn fun p hp=>hnum p hp) hN1.zk
 rw[←hke]at hcall
 replace hcall:=hide hcall
 have hfin:Hid (∀w2 a',T (atmN (ndI s.L i)) a'→a'.ps.length≤209716→Below (w.alloc (.cells #[.int .i64 kd,.bool sd,.slice ad ld cd,.slice ap np cp,.bool sk,.slice ak lk ck,.int .i64 vr,.slice kka kkn kkc] 69)).heap.size (w.alloc (.cells #[.int .i64 kd,.bool sd,.slice ad ld cd,.slice ap np cp,.bool sk,.slice ak lk ck,.int .i64 vr,.slice kka kkn kkc] 69)) w2→∀sd ad ld cd ap np cp sk ak lk ck,Zn w2 sd ad ld cd a'.d→ld≤1500000→Pn w2 ap np a'.ps 1500000→Zn w2 sk ak lk ck a'.k→lk≤1500000→Calls Tryz.prog 17 #[.pointer (some ⟨pa,0,none⟩),.agg #[.int .i64 a'.kind,.bool sd,.slice ad ld cd,.slice ap np cp,.bool sk,.slice ak lk ck]] w2 fun e w3=> ∃r,TuR T nn kk s i ks r∧AO2 w w3 e pa pm nn kk F r):=hide fun w2 a' hTa hl k2 sd ad ld cd ap np cp sk ak lk ck z1 l1 z2 z3 l3=>by
  have hfit:=hT _ _ hTa
  have hE2:=hE1.below k2
  have hnp:np≤209716:=by have:=z2.1;omega
  have h1:=atom_ao2 (B:=1500000) (kd:=a'.kind) (cp:=cp) hE2.g z1.zm l1 z2.pr z3.zm l3 hnp o_m hE2.tab
  rw[actA_fit hfit]at h1
  exact h1.mono fun e w3 h=>⟨_,.inr (.inr (.inr ⟨hk,a',hTa,hl,rfl⟩)),ao2_back (grow_step k2 b1) h⟩
 clear hke ht hE hE1 hN hN1 hnum hk
 go_enter Tryz.func84,Tryz.ntmps84
 go_wp2_with fail
 refine hcall.out.mono ?_
 rintro e w2 ⟨a',hTa,hl,⟨sd2,ad2,ld2,cd2,ap2,np2,cp2,sk2,ak2,lk2,ck2,rfl,z1,l1,z2,z3,l3⟩,k2⟩
 have hc2:=hide (hfin.out w2 a' hTa hl k2 sd2 ad2 ld2 cd2 ap2 np2 cp2 sk2 ak2 lk2 ck2 z1 l1 z2 z3 l3)
 clear hcall hfin z1 l1 z2 z3 l3 hTa hl k2 g0 g1 g2 g3 g4 g5
 generalize a'.kind=kd2 at*
 go_wp2_with fail
 refine hc2.out.mono ?_
 rintro e w3 ⟨r,hr,ha⟩
 have h9:=hide (And.intro hr ha)
 obtain⟨rfl,-⟩:=ha
 clear hc2 hr
 go_wp2_with fail
 refine bodyPost_ret (results_tmp2 rfl _ _ _) rfl ?_
 exact⟨r,h9.out⟩
end Sb
end Nt
namespace Nt
namespace Sb

variable {w:World}{ap:Option Addr}{np cp:Nat}
theorem indexP_n {qv B:Nat}{v:Int}{ps:List (Int × Int)}(hP:Pn w ap np ps B)(hm:np≤4194304)(hv:w.heap[qv]? =some (.cells #[.int .i64 v] 3 (0,0))):
  Calls Tryz.prog 118 #[.slice ap np cp,.func (.func 80) #[] #[.pointer (some ⟨qv,0,none⟩)]] w fun x w'=> ∃i:Int,x= .returned (.int .i64 i)∧(decide (0≤i)=ps.any (isP v))∧-1≤i∧i<np∧Below w.heap.size w w':=by
 have hl:=hP.1
 go_enter Tryz.func118,Tryz.ntmps118
 go_wp2_with fail
 go_loopw [8] (fun i wr=> ∃t:Nat,t≤np∧i= .int .i64 t∧Hid ((ps.take t).any (isP v)=false)∧Hid (Below w.heap.size w wr)) (fun i _=>np-(intOf i).toNat)
 case atStart=>exact⟨0,Nat.zero_le _,rfl,(show _=_ by simp),hide (Below.refl _ _)⟩
 case round=>
  obtain⟨t,ht,rfl,hno,kr⟩:=hrel
  by_cases htm:t<np
  ·rcases(hP.below kr.out).2 with h0|⟨bp,op,rfl,hbp,hLL⟩
   ·omega
   obtain⟨s,a,l,c,e0,e1,e2,-⟩:=hLL t o_m
   have hstep:Hid ((ps.take (t+1)).any (isP v)=isP v (ps[t]'o_m)):=(show _=_ by rw[List.take_succ_eq_append_getElem (l:=ps) (i:=t) o_m,List.any_append,hno.out];simp)
   have hex:Hid (isP v (ps[t]'o_m)=true→ps.any (isP v)=true):=(fun hh=>List.any_eq_true.2 ⟨ps[t]'o_m,List.getElem_mem _,hh⟩)
   have hcl:=hide (isPart_n (u:=(ps[t]'o_m).1) (s:=s) (a:=a) (l:=l) (c:=c) ((kr.out.block qv (lt_of_block hv)).trans hv))
   have hip:isP v (ps[t]'o_m)=((ps[t]'o_m).1==v):=rfl
   rw[hip]at hstep hex
   clear hip
   generalize (ps[t]'o_m).1=u at*
   clear hP hLL
   go_wp2_with fail
   refine hcl.out.mono ?_
   rintro x w2 ⟨rfl,k2⟩
   replace k2:=hide (grow_step k2 kr.out)
   clear hcl
   cases hil:(u==v)with
   |true=>
    have hany:=hide (hex.out hil)
    clear hil
    go_wp2
    go_ret
    exact⟨t,rfl,by rw[hany.out];simp,by omega,by omega,k2.out⟩
   |false=>
    have hst:=hide (hstep.out.trans hil)
    clear hil
    go_wp2
    go_round
    case rel=>exact⟨t+1,by omega,by go_num,hst,k2⟩
    case measure=>simp[intOf];omega
  obtain rfl:t=np:=by omega
  have hall:Hid (ps.any (isP v)=false):=by
   have h1:=hno.out
   rw[List.take_of_length_le o_m]at h1
   exact h1
  clear hno
  go_wp2
  go_ret
  exact⟨-1,rfl,by rw[hall.out];rfl,by omega,by omega,kr.out⟩
theorem containsP_n {qv B:Nat}{v:Int}{ps:List (Int × Int)}(hP:Pn w ap np ps B)(hm:np≤4194304)(hv:w.heap[qv]? =some (.cells #[.int .i64 v] 3 (0,0))):
  Calls Tryz.prog 79 #[.slice ap np cp,.func (.func 80) #[] #[.pointer (some ⟨qv,0,none⟩)]] w fun x w'=>x= .returned (.bool (ps.any (isP v)))∧Below w.heap.size w w':=by
 have hix:=hide (indexP_n (cp:=cp) hP hm hv)
 clear hP hv
 go_enter Tryz.func79,Tryz.ntmps79
 go_wp2_with fail
 refine hix.out.mono ?_
 rintro x w1 ⟨i,rfl,h1,h2,h3,k1⟩
 replace k1:=hide k1
 replace h1:=hide h1
 clear hix
 go_wp2
 go_ret
 exact⟨by rw[←h1.out];rfl,k1.out⟩
theorem isQuant12_n {kd vr:Int}{sd:Bool}{ad:Option Addr}{ld cd:Nat}{sk:Bool}{ak:Option Addr}{lk ck:Nat}{ka:Option Addr}{kn kc:Nat}(h7: ¬kd=7)(h8: ¬kd=8):
  Calls Tryz.prog 81 #[.agg #[.int .i64 kd,.bool sd,.slice ad ld cd,.slice ap np cp,.bool sk,.slice ak lk ck,.int .i64 vr,.slice ka kn kc]] w fun e w'=>e= .returned (.bool false)∧Below w.heap.size w w':=by
 have y:=NB.new w kd sd ad ld cd ap np cp sk ak lk ck vr ka kn kc
 have g0:=y.c0
 have b0:=hide (below_alloc w (.cells #[.int .i64 kd,.bool sd,.slice ad ld cd,.slice ap np cp,.bool sk,.slice ak lk ck,.int .i64 vr,.slice ka kn kc] 69))
 clear y
 go_enter Tryz.func81,Tryz.ntmps81
 go_wp2
 go_ret
 exact⟨(show Ending.returned (.bool (kd==7||kd==8))=_ by simp[h7,h8]),b0.out⟩
end Sb
end Nt
namespace Nt
namespace Sb

variable {wS:World}{B:Lb}{pa pm:Nat}{kk v:Int}{L:List Nd}{F:Nat→Prop}
theorem markR_at {x:Value}{b:Bool}{ps:List MemPlace}(h:markR x=some (.lit (.bool b),ps)):x= .agg #[.bool b]:=by
 obtain⟨c,rfl,e⟩:=markR_inv h
 injection e with e1
 injection e1 with e1
 injection e1 with e1
 rw[e1]
structure LK (wS:World) (B:Lb) (pa pm:Nat) (kk v:Int) (L:List Nd) (F:Nat→Prop) (w6:World) (Vis:List Int) (id:Int) (wr:World) (Vis':List Int) (D':DataW Value) (t:Nat) (b:Bool):Prop where
 s:LS wS B pa pm kk v L F wr Vis' D'
 m: ∀x∈Vis,x∈Vis'
 n: ∀x∈Vis',x∈Vis∨x<id
 tk: ∀x∈(ndI L id).kids.take t,x∈Vis'
 bb:b=true↔(∃c,(v,c)∈(ndI L id).ps)∨ ∃x∈(ndI L id).kids.take t,Fv L v x
 k:ButF (fun b=>b=B.bm) w6 wr
theorem LkP.back {wA w w':World}{Vis:List Int}{id:Int}{e:Ending}(k:Below wA.heap.size wA w)(h:LkP wS B pa pm kk v L F w Vis id e w'):LkP wS B pa pm kk v L F wA Vis id e w':=by
 obtain⟨b,Vis',D',h1,h2,h3,h4,h5,h6,h7⟩:=h
 exact⟨b,Vis',D',h1,h2,h3,h4,h5,h6,ButF.trans (butF_below k) h7 fun _ _ h=>h⟩
theorem look_step (hL:L.length≤2002)(h0:0≤kk)(hkk:kk≤8)(id:Int)(ho:okI L id)(hp:Pln L id)
  (ih: ∀id',okI L id'→id'<id→Pln L id'→∀(w:World) (Vis:List Int) (D:DataW Value),LS wS B pa pm kk v L F w Vis D→Calls Tryz.prog 78 #[.int .i64 id',.pointer (some ⟨B.pb,0,none⟩),.pointer (some ⟨B.qa,0,none⟩),.pointer (some ⟨B.qv,0,none⟩),.pointer (some ⟨B.ql,0,none⟩)] w fun e w'=>LkP wS B pa pm kk v L F w Vis id' e w')
  (wA:World)(Vis:List Int)(D:DataW Value)(hSA:LS wS B pa pm kk v L F wA Vis D):
  Calls Tryz.prog 78 #[.int .i64 id,.pointer (some ⟨B.pb,0,none⟩),.pointer (some ⟨B.qa,0,none⟩),.pointer (some ⟨B.qv,0,none⟩),.pointer (some ⟨B.ql,0,none⟩)] wA fun e w'=>LkP wS B pa pm kk v L F wA Vis id e w':=by
 have hI:I64 id:=by have h1:=ho.1;have h2:=ho.2;unfold I64;omega
 have up:=cell_of_row wA B.pb 0 _ _ (0,0) hSA.b.hp
 have hky:=keyOf_i hI
 have hz0: ∀w:World,(zeroValue 142).run Tryz.prog w= .ok (.agg #[.bool false]) w:=fun w=>by kernel_rfl
 have hmp:=hSA.m
 have hmd:=hSA.d id hI
 by_cases hin:id∈Vis
 ·rw[decide_eq_true hin]at hmd
  obtain⟨_,bm,hbm,hat⟩:=hSA.j id hin
  have hfin:Hid (∀w1,Below wA.heap.size wA w1→LkP wS B pa pm kk v L F wA Vis id (.returned (.bool bm)) w1):=hide fun w1 k=>⟨bm,Vis,D,rfl,hbm,hSA.below k,fun x hx=>hx,hin,fun x hx=> .inl hx,butF_below k⟩
  have hf2:=hide (hfin.out _ (below_alloc wA (.cells #[.bool bm] 142)))
  clear hfin
  clear ih
  go_enter Tryz.func78,Tryz.ntmps78
  go_wp2_with(at_lookup;refine wpList_lookup_own_ok _ rfl _ _ 90 rfl 3 142 tk Tryz.underlying90 markR (hz0 _) (.lit (.bool false)) [] (markR_mk false) B.bm Vis.length D rfl hmp (.int .i64 id) (.int .i64 id) rfl hky ?_;intro cv cps hcv;rw[hmd];rw[hat]at hcv;obtain rfl:=markR_at hcv;clear hcv)
  go_ret
  exact hf2.out
 rw[decide_eq_false hin]at hmd
 replace ih:=hide ih
 go_enter Tryz.func78,Tryz.ntmps78
 go_wp2_with(at_lookup;refine wpList_lookup_own_ok _ rfl _ _ 90 rfl 3 142 tk Tryz.underlying90 markR (hz0 _) (.lit (.bool false)) [] (markR_mk false) B.bm Vis.length D rfl hmp (.int .i64 id) (.int .i64 id) rfl hky ?_;intro cv cps hcv;rw[hmd];obtain⟨cb,rfl,-⟩:=markR_inv hcv;clear hcv;have ua:=cell_of_row _ B.qa 0 _ _ (0,0) (hSA.below (below_alloc wA (.cells #[.bool cb] 142))).b.ha)
 clear up ua hmp hmd
 have kA:=below_alloc wA (.cells #[.bool cb] 142)
 have hS:=hSA.below kA
 have hback:Hid (∀e w',LkP wS B pa pm kk v L F (wA.alloc (.cells #[.bool cb] 142)) Vis id e w'→LkP wS B pa pm kk v L F wA Vis id e w'):=hide fun e w' h=>h.back kA
 clear hSA kA
 generalize wA.alloc (.cells #[.bool cb] 142)=w at*
 have hnode:=hide (node9_n (B:=8) hS.ax hS.g h0 hkk o_m id)
 refine hnode.out.mono ?_
 clear hnode
 rintro e w5 (⟨-,xr,rfl,hN,k5⟩|⟨hok,rfl,k5⟩)
 rotate_left
 ·exact absurd ho hok
 obtain⟨kdn,sd,ad,ld,cd,ap,np,cp,sk,ak,lk,ck,vr,kka,kkn,kkc⟩:=xr
 obtain rfl:kdn=(ndI L id).kind:=hN.kd
 obtain rfl:vr=(ndI L id).var:=hN.vr
 obtain rfl:kkn=(ndI L id).kids.length:=hN.kids.1.symm
 simp only[nE]
 have b6:=below_alloc w5 (.cells #[.int .i64 (ndI L id).kind,.bool sd,.slice ad ld cd,.slice ap np cp,.bool sk,.slice ak lk ck,.int .i64 (ndI L id).var,.slice kka (ndI L id).kids.length kkc] 69)
 have y6:NB (w5.alloc (.cells #[.int .i64 (ndI L id).kind,.bool sd,.slice ad ld cd,.slice ap np cp,.bool sk,.slice ak lk ck,.int .i64 (ndI L id).var,.slice kka (ndI L id).kids.length kkc] 69)) w5.heap.size (ndI L id).kind sd ad ld cd ap np cp sk ak lk ck (ndI L id).var kka (ndI L id).kids.length kkc:=NB.new w5 _ _ _ _ _ _ _ _ _ _ _ _ _ _ _ _
 have k6:=grow_step b6 k5
 have hS6:=hS.below k6
 have hN6:NC (fun b=>w.heap.size≤b∧b<w5.heap.size) (w5.alloc (.cells #[.int .i64 (ndI L id).kind,.bool sd,.slice ad ld cd,.slice ap np cp,.bool sk,.slice ak lk ck,.int .i64 (ndI L id).var,.slice kka (ndI L id).kids.length kkc] 69)) ⟨(ndI L id).kind,sd,ad,ld,cd,ap,np,cp,sk,ak,lk,ck,(ndI L id).var,kka,(ndI L id).kids.length,kkc⟩ (ndI L id) 8:=hN.move b6.size (fun b _ hl=>b6.block b hl) fun b hb hl=>⟨hb,hl⟩
 have s6:(w5.alloc (.cells #[.int .i64 (ndI L id).kind,.bool sd,.slice ad ld cd,.slice ap np cp,.bool sk,.slice ak lk ck,.int .i64 (ndI L id).var,.slice kka (ndI L id).kids.length kkc] 69)).heap.size=w5.heap.size+1:=by simp
 have hw5:=k5.size
 have hbl:=lt_of_map hS.m
 have g0:=y6.c0
 have g1:=y6.c1
 have g2:=y6.c2
 have g3:=y6.c3
 have g4:=y6.c4
 have g5:=y6.c5
 have g6:=y6.c6
 have g7:=y6.c7
 have hnp:np≤1048576:=hN6.hnp
 have hcon:=hide (containsP_n (np:=np) (cp:=cp) hN6.pn.pn o_m hS6.b.hv)
 have hkq:=hp id (dn_self L id)
 clear hN b6 k5
 go_wp2_with fail
 clear g0 g1 g2 g3 g4 g5 g6 g7
 generalize w5.alloc (.cells #[.int .i64 (ndI L id).kind,.bool sd,.slice ad ld cd,.slice ap np cp,.bool sk,.slice ak lk ck,.int .i64 (ndI L id).var,.slice kka (ndI L id).kids.length kkc] 69)=w6 at*
 refine hcon.out.mono ?_
 rintro e w7 ⟨rfl,k7⟩
 have hbP:=hide (isP_any (n:=ndI L id) (v:=v))
 generalize (ndI L id).ps.any (isP v)=b0 at*
 have y7:=y6.below k7
 have g0:=y7.c0
 have g1:=y7.c1
 have g2:=y7.c2
 have g3:=y7.c3
 have g4:=y7.c4
 have g5:=y7.c5
 have g6:=y7.c6
 have g7:=y7.c7
 have hiq:=hide (isQuant12_n (w:=w7) (kd:=(ndI L id).kind) (vr:=(ndI L id).var) (sd:=sd) (ad:=ad) (ld:=ld) (cd:=cd) (ap:=ap) (np:=np) (cp:=cp) (sk:=sk) (ak:=ak) (lk:=lk) (ck:=ck) (ka:=kka) (kn:=(ndI L id).kids.length) (kc:=kkc) hkq.1 hkq.2)
 clear hcon
 go_wp2_with fail
 refine hiq.out.mono ?_
 rintro e w8 ⟨rfl,k8⟩
 clear hiq g0 g1 g2 g3 g4 g5 g6 g7
 have k68:=grow_step k8 k7
 have y8:=y6.below k68
 have hS8:=hS6.below k68
 have hN8:NC (fun b=>w.heap.size≤b∧b<w5.heap.size) w8 ⟨(ndI L id).kind,sd,ad,ld,cd,ap,np,cp,sk,ak,lk,ck,(ndI L id).var,kka,(ndI L id).kids.length,kkc⟩ (ndI L id) 8:=hN6.move k68.size (fun b hb hl=>k68.block b hl) fun b hb _=>hb
 have g7:=y8.c7
 have k08:=grow_step k68 k6
 have hz8:=k68.size
 clear hS6 hN6 y6 y7 k7 k8 k68 k6
 go_wp2_with fail
 clear g7
 have hkl20:(ndI L id).kids.length≤2002:=by have h1:=(hS8.g.kids ho).1;have h2:=ho.2;omega
 go_loopw [11,47] (fun fb q wr=> ∃(t:Nat) (b:Bool) (Vis':List Int) (D':DataW Value),t≤(ndI L id).kids.length∧fb= .bool b∧q= .int .i64 t∧Hid (LK wS B pa pm kk v L F w8 Vis id wr Vis' D' t b)) (fun _ q _=>(ndI L id).kids.length-(intOf q).toNat)
 case atStart=>exact⟨0,b0,Vis,D,Nat.zero_le _,rfl,rfl,hide ⟨hS8,fun x hx=>hx,fun x hx=> .inl hx,by simp,by rw[hbP.out];simp,⟨rfl,rfl,rfl,Nat.le_refl _,fun _ _ _=>rfl⟩⟩⟩
 case round=>
  obtain⟨t,b,Vis',D',ht,rfl,rfl,hK⟩:=hrel
  have hfr: ∀q,w.heap.size≤q→q<w8.heap.size→wr.heap[q]? =w8.heap[q]?:=fun q h1 h2=>hK.out.k.block q h2 fun e=>by omega
  have yr:NB wr w5.heap.size (ndI L id).kind sd ad ld cd ap np cp sk ak lk ck (ndI L id).var kka (ndI L id).kids.length kkc:=(hfr _ hw5 (lt_of_block y8)).trans y8
  have hNr:NC (fun b=>w.heap.size≤b∧b<w5.heap.size) wr ⟨(ndI L id).kind,sd,ad,ld,cd,ap,np,cp,sk,ak,lk,ck,(ndI L id).var,kka,(ndI L id).kids.length,kkc⟩ (ndI L id) 8:=hN8.move hK.out.k.size (fun b hb hl=>hfr b hb.1 hl) fun _ hb _=>hb
  by_cases htn:t<(ndI L id).kids.length
  ·rcases hNr.kids.2 with h0'|⟨kb,ko,rfl,hkb,hkc⟩
   ·dsimp only at h0'
    omega
   obtain⟨hcz,hIz⟩:=hkc t htn
   have hzk:(ndI L id).kids[t]∈(ndI L id).kids:=List.getElem_mem _
   have hzw:=hS8.g.wk id ho _ hzk
   have hoz:=hS8.g.wk.ok ho hzk
   have hpz:=((her_iff ho).1 hp).2 _ hzk
   have htk:Hid ((ndI L id).kids.take (t+1)=(ndI L id).kids.take t++ [(ndI L id).kids[t]]):=hide (List.take_succ_eq_append_getElem htn)
   generalize (ndI L id).kids[t]=z at*
   have hcall:=hide (ih.out z hoz hzw.2 hpz wr Vis' D' hK.out.s)
   have ul:=cell_of_row wr B.ql 0 _ _ (0,0) hK.out.s.b.hl
   clear ih hkc
   go_wp2_with fail
   refine hcall.out.mono ?_
   clear hcall
   rintro e w9 ⟨b1,Vis1,D1,rfl,hb1,hS1,hm1,hi1,hn1,hk1⟩
   have hnext:Hid (LK wS B pa pm kk v L F w8 Vis id w9 Vis1 D1 (t+1) (b1||b)):=hide ⟨hS1,fun x hx=>hm1 x (hK.out.m x hx),fun x hx=>(hn1 x hx).elim (hK.out.n x) fun h=> .inr o_m,fun x hx=>by
    rw[htk.out]at hx
    rcases List.mem_append.1 hx with hx|hx
    ·exact hm1 x (hK.out.tk x hx)
    ·rw[List.mem_singleton.1 hx]
     exact hi1,by
    rw[Bool.or_eq_true_iff,hb1,hK.out.bb,htk.out]
    constructor
    ·rintro(h|h|⟨x,hx,h⟩)
     ·exact .inr ⟨z,List.mem_append_right _ (by simp),h⟩
     ·exact .inl h
     exact .inr ⟨x,List.mem_append_left _ hx,h⟩
    rintro(h|⟨x,hx,h⟩)
    ·exact .inr (.inl h)
    rcases List.mem_append.1 hx with hx|hx
    ·exact .inr (.inr ⟨x,hx,h⟩)
    rw[List.mem_singleton.1 hx]at h
    exact .inl h,ButF.trans hK.out.k hk1 fun _ _ h=>h⟩
   clear hK hS8 hN8 hNr hfr ul hS1 hm1 hi1 hn1 hk1 hb1 hbP
   cases b1
   ·go_wp2_with fail
    exact⟨⟨t+1,b,Vis1,D1,by omega,rfl,by go_num,by simpa using hnext⟩,by simp[intOf];omega⟩
   go_wp2_with fail
   exact⟨⟨t+1,true,Vis1,D1,by omega,rfl,by go_num,by simpa using hnext⟩,by simp[intOf];omega⟩
  obtain rfl:t=(ndI L id).kids.length:=by omega
  have htk:=hK.out.tk
  have hbb:=hK.out.bb
  rw[List.take_length]at htk hbb
  have hbf:b=true↔Fv L v id:=hbb.trans ((fv_iff ho).trans ⟨fun h=>h.elim .inl fun h=> .inr h.2,fun h=>h.elim .inl fun h=> .inr ⟨fun hn=>hn.1.elim hkq.1 hkq.2,h⟩⟩).symm
  have hnin:id∉Vis':=fun h=>(hK.out.n id h).elim hin fun h=>by omega
  have up:=cell_of_row wr B.pb 0 _ _ (0,0) hK.out.s.b.hp
  have hmp:=hK.out.s.m
  have hvl:=hK.out.s.len
  have hml:Vis'.length<maxLen:=by unfold maxLen;omega
  have g0:=yr.c0
  have g1:=yr.c1
  have g2:=yr.c2
  have g3:=yr.c3
  have g4:=yr.c4
  have g5:=yr.c5
  have g6:=yr.c6
  have g7:=yr.c7
  have hbwr:ButF (fun b=>b=B.bm) w wr:=ButF.trans (butF_below k08) hK.out.k fun _ _ h=>h
  have hput:Hid (∀w10:World,w10.ownsMap Tryz.prog 3 markR B.bm (Vis'.length+1) (D'.put (.int .i64 id) (.lit (.bool b)))→wr.grownBy w10 (some B.bm)→∀w11,Below w10.heap.size w10 w11→LkP wS B pa pm kk v L F w Vis id (.returned (.bool b)) w11):=hide fun w10 hm10 hg10 w11 k11=>by
   have h10:=hK.out.s.put ho o_m hbf hnin htk hm10 hg10
   refine⟨b,id::Vis',_,rfl,hbf,h10.below k11,fun x hx=>List.mem_cons_of_mem _ (hK.out.m x hx),List.mem_cons_self,fun x hx=> ?_,?_⟩
   ·rcases List.mem_cons.1 hx with rfl|hx
    ·exact .inr (Int.le_refl _)
    exact(hK.out.n x hx).imp (fun h=>h) fun h=>by omega
   exact ButF.trans (ButF.trans hbwr (⟨hg10.os,hg10.tape,hg10.output,hg10.size,fun q hb hn=>hg10.block q hb fun e=>hn (Option.some.inj e)⟩:ButF (fun b=>b=B.bm) wr w10) fun _ _ h=>h) (butF_below (F:=fun _=>False) k11) fun _ _ h=>h.elim
  have hnd:Hid (∀w10:World,wr.grownBy w10 (some B.bm)→NB w10 w5.heap.size (ndI L id).kind sd ad ld cd ap np cp sk ak lk ck (ndI L id).var kka (ndI L id).kids.length kkc):=hide fun w10 hg=>(hg.block _ (lt_of_block yr) fun e=>by injection e with e;omega).trans yr
  clear hK hS8 hN8 hNr hfr hbP htk hbb hbwr y8 k08 ih g0 g1 g2 g3 g4 g5 g6 g7 yr hS hbf s6 hz8 hw5 hbl hvl hnin hin htn ht hnp hkl20 hz0 ho hp hI
  have hq7:=hkq.1
  have hq8:=hkq.2
  clear hkq
  cases b
  ·go_wp2_with(at_mapUpdate;refine wpList_mapUpdate_own _ rfl _ _ _ 90 rfl 3 142 tk Tryz.underlying90 markR B.bm Vis'.length D' rfl hmp hml (.int .i64 id) (.agg #[.bool false]) (.int .i64 id) rfl rfl hky (.lit (.bool false)) [] (markR_mk false) ?_;intro w10 hm10 hg10;have h10:=hide (hput.out w10 hm10 hg10);clear hm10 hg10 hput hmp hnd)
   have hend:=hide (hback.out _ _ (h10.out _ (Below.refl _ _)))
   clear h10 hback
   go_ret
   exact hend.out
  go_wp2_with(at_mapUpdate;refine wpList_mapUpdate_own _ rfl _ _ _ 90 rfl 3 142 tk Tryz.underlying90 markR B.bm Vis'.length D' rfl hmp hml (.int .i64 id) (.agg #[.bool true]) (.int .i64 id) rfl rfl hky (.lit (.bool true)) [] (markR_mk true) ?_;intro w10 hm10 hg10;have h10:=hide (hput.out w10 hm10 hg10);have y10:=hnd.out w10 hg10;have g0:=y10.c0;have g1:=y10.c1;have g2:=y10.c2;have g3:=y10.c3;have g4:=y10.c4;have g5:=y10.c5;have g6:=y10.c6;have g7:=y10.c7;clear hm10 hg10 hput hmp hnd)
  refine(isQuant12_n hq7 hq8).mono ?_
  rintro e w11 ⟨rfl,k11⟩
  have hend:=hide (hback.out _ _ (h10.out _ k11))
  clear h10 hback g0 g1 g2 g3 g4 g5 g6 g7 y10
  go_wp2_with fail
  go_ret
  exact hend.out
theorem look_n (hL:L.length≤2002)(h0:0≤kk)(hkk:kk≤8): ∀(N:Nat) (id:Int),id<(N:Int)→okI L id→Pln L id→∀(w:World) (Vis:List Int) (D:DataW Value),LS wS B pa pm kk v L F w Vis D→
  Calls Tryz.prog 78 #[.int .i64 id,.pointer (some ⟨B.pb,0,none⟩),.pointer (some ⟨B.qa,0,none⟩),.pointer (some ⟨B.qv,0,none⟩),.pointer (some ⟨B.ql,0,none⟩)] w fun e w'=>LkP wS B pa pm kk v L F w Vis id e w'
 |0,id,hid,ho,_=>by have:=ho.1;omega
 |N+1,id,hid,ho,hp=>look_step hL h0 hkk id ho hp fun id' ho' hlt hp'=>look_n hL h0 hkk N id' o_m ho' hp'
end Sb
end Nt
namespace Nt
namespace Sb

variable {w:World}{v:Int}{L:List Nd}
structure MK (w:World) (bm:Nat) (v:Int) (L:List Nd) (Vis:List Int) (D:DataW Value):Prop where
 m:w.ownsMap Tryz.prog 3 markR bm Vis.length D
 d: ∀x,I64 x→Maps.has D (.int .i64 x)=decide (x∈Vis)
 j: ∀x∈Vis,okI L x∧∃b:Bool,(b=true↔Fv L v x)∧∀z,D.atKey (.int .i64 x) z= .lit (.bool b)
 c: ∀x∈Vis,∀k∈(ndI L x).kids,k∈Vis
theorem MK.move {w':World}{bm:Nat}{Vis:List Int}{D:DataW Value}(h:MK w bm v L Vis D)(hb:w'.heap[bm]? =w.heap[bm]?):MK w' bm v L Vis D:=by
 obtain⟨⟨es,clock,h1,h2⟩,h3,h4,h5⟩:=h
 exact⟨⟨es,clock,hb.trans h1,h2⟩,h3,h4,h5⟩
def PlP (w:World)(v:Int)(L:List Nd)(id:Int)(e:Ending)(w':World):Prop:=
 ∃bm Vis D,e= .returned (.agg #[.map (some bm),.slice none 0 0])∧w.heap.size≤bm∧MK w' bm v L Vis D∧id∈Vis∧Below w.heap.size w w'
theorem placesOf_n {pa pm:Nat}{kk:Int}{F:Nat→Prop}{id:Int}(hA:AX w pa pm L F)(hg:Gv kk L)(hL:L.length≤2002)(h0:0≤kk)(hkk:kk≤8)(ho:okI L id)(hp:Pln L id):
  Calls Tryz.prog 42 #[.pointer (some ⟨pa,0,none⟩),.int .i64 id,.int .i64 v] w fun e w'=>PlP w v L id e w':=by
 have hmk:=run_makeMap (P:=Tryz.prog) 90 (((w.alloc (.cells #[.pointer (some ⟨pa,0,none⟩)] 31)).alloc (.cells #[.int .i64 v] 3)).alloc (.cells #[.map none,.slice none 0 0] 92))
 have z1:(w.alloc (.cells #[.pointer (some ⟨pa,0,none⟩)] 31)).heap.size=w.heap.size+1:=by simp
 have z2:((w.alloc (.cells #[.pointer (some ⟨pa,0,none⟩)] 31)).alloc (.cells #[.int .i64 v] 3)).heap.size=w.heap.size+1+1:=by simp
 have z3:(((w.alloc (.cells #[.pointer (some ⟨pa,0,none⟩)] 31)).alloc (.cells #[.int .i64 v] 3)).alloc (.cells #[.map none,.slice none 0 0] 92)).heap.size=w.heap.size+1+1+1:=by simp
 have z4:((((w.alloc (.cells #[.pointer (some ⟨pa,0,none⟩)] 31)).alloc (.cells #[.int .i64 v] 3)).alloc (.cells #[.map none,.slice none 0 0] 92)).alloc (.map #[] 0)).heap.size=w.heap.size+1+1+1+1:=by simp
 have z5:(((((w.alloc (.cells #[.pointer (some ⟨pa,0,none⟩)] 31)).alloc (.cells #[.int .i64 v] 3)).alloc (.cells #[.map none,.slice none 0 0] 92)).alloc (.map #[] 0)).alloc (.cells #[.map (some (w.heap.size+1+1+1)),.slice none 0 0] 92)).heap.size=w.heap.size+1+1+1+1+1:=by simp
 have z6:((((((w.alloc (.cells #[.pointer (some ⟨pa,0,none⟩)] 31)).alloc (.cells #[.int .i64 v] 3)).alloc (.cells #[.map none,.slice none 0 0] 92)).alloc (.map #[] 0)).alloc (.cells #[.map (some (w.heap.size+1+1+1)),.slice none 0 0] 92)).alloc (.cells #[.func (.func 78) #[] #[.pointer (some ⟨w.heap.size+1+1+1+1,0,none⟩),.pointer (some ⟨w.heap.size,0,none⟩),.pointer (some ⟨w.heap.size+1,0,none⟩),.pointer (some ⟨w.heap.size+1+1+1+1+1,0,none⟩)]] 94)).heap.size=w.heap.size+1+1+1+1+1+1:=by simp
 have c1:=heap_alloc_new w (.cells #[.pointer (some ⟨pa,0,none⟩)] 31)
 have c2:=heap_alloc_new (w.alloc (.cells #[.pointer (some ⟨pa,0,none⟩)] 31)) (.cells #[.int .i64 v] 3)
 have c3:=heap_alloc_new ((w.alloc (.cells #[.pointer (some ⟨pa,0,none⟩)] 31)).alloc (.cells #[.int .i64 v] 3)) (.cells #[.map none,.slice none 0 0] 92)
 have c4:((((w.alloc (.cells #[.pointer (some ⟨pa,0,none⟩)] 31)).alloc (.cells #[.int .i64 v] 3)).alloc (.cells #[.map none,.slice none 0 0] 92)).alloc (.map #[] 0)).ownsMap Tryz.prog 3 markR (((w.alloc (.cells #[.pointer (some ⟨pa,0,none⟩)] 31)).alloc (.cells #[.int .i64 v] 3)).alloc (.cells #[.map none,.slice none 0 0] 92)).heap.size 0 (.map []:DataW Value):=World.ownsMap_made _ _ _ _
 have c5:=heap_alloc_new ((((w.alloc (.cells #[.pointer (some ⟨pa,0,none⟩)] 31)).alloc (.cells #[.int .i64 v] 3)).alloc (.cells #[.map none,.slice none 0 0] 92)).alloc (.map #[] 0)) (.cells #[.map (some (w.heap.size+1+1+1)),.slice none 0 0] 92)
 have c6:=heap_alloc_new (((((w.alloc (.cells #[.pointer (some ⟨pa,0,none⟩)] 31)).alloc (.cells #[.int .i64 v] 3)).alloc (.cells #[.map none,.slice none 0 0] 92)).alloc (.map #[] 0)).alloc (.cells #[.map (some (w.heap.size+1+1+1)),.slice none 0 0] 92)) (.cells #[.func (.func 78) #[] #[.pointer (some ⟨w.heap.size+1+1+1+1,0,none⟩),.pointer (some ⟨w.heap.size,0,none⟩),.pointer (some ⟨w.heap.size+1,0,none⟩),.pointer (some ⟨w.heap.size+1+1+1+1+1,0,none⟩)]] 94)
 have b1:=below_alloc w (.cells #[.pointer (some ⟨pa,0,none⟩)] 31)
 have b2:=below_alloc (w.alloc (.cells #[.pointer (some ⟨pa,0,none⟩)] 31)) (.cells #[.int .i64 v] 3)
 have b3:=below_alloc ((w.alloc (.cells #[.pointer (some ⟨pa,0,none⟩)] 31)).alloc (.cells #[.int .i64 v] 3)) (.cells #[.map none,.slice none 0 0] 92)
 have b4:=below_alloc (((w.alloc (.cells #[.pointer (some ⟨pa,0,none⟩)] 31)).alloc (.cells #[.int .i64 v] 3)).alloc (.cells #[.map none,.slice none 0 0] 92)) (.map #[] 0)
 have b5:=below_alloc ((((w.alloc (.cells #[.pointer (some ⟨pa,0,none⟩)] 31)).alloc (.cells #[.int .i64 v] 3)).alloc (.cells #[.map none,.slice none 0 0] 92)).alloc (.map #[] 0)) (.cells #[.map (some (w.heap.size+1+1+1)),.slice none 0 0] 92)
 have b6:=below_alloc (((((w.alloc (.cells #[.pointer (some ⟨pa,0,none⟩)] 31)).alloc (.cells #[.int .i64 v] 3)).alloc (.cells #[.map none,.slice none 0 0] 92)).alloc (.map #[] 0)).alloc (.cells #[.map (some (w.heap.size+1+1+1)),.slice none 0 0] 92)) (.cells #[.func (.func 78) #[] #[.pointer (some ⟨w.heap.size+1+1+1+1,0,none⟩),.pointer (some ⟨w.heap.size,0,none⟩),.pointer (some ⟨w.heap.size+1,0,none⟩),.pointer (some ⟨w.heap.size+1+1+1+1+1,0,none⟩)]] 94)
 rw[z1]at c2
 rw[z2]at c3
 rw[z3]at c4
 rw[z4]at c5
 rw[z5]at c6
 have k5:=b6
 have k4:=grow_step k5 b5
 have k3:=grow_step k4 b4
 have k2:=grow_step k3 b3
 have k1:=grow_step k2 b2
 have k0:=grow_step k1 b1
 have d1:=(k1.block (w.heap.size) o_m).trans c1
 have d2:=(k2.block (w.heap.size+1) o_m).trans c2
 have d3:=(k3.block (w.heap.size+1+1) o_m).trans c3
 have d4:=c4.kept (gb_none k4) (by simp)
 have d5:=(k5.block (w.heap.size+1+1+1+1) o_m).trans c5
 clear c1 c2 c3 c4 c5 b1 b2 b3 b4 b5 b6 k1 k2 k3 k4 k5 z1 z2 z3 z4 z5
 replace c6:=hide c6
 replace d1:=hide d1
 replace d2:=hide d2
 replace d3:=hide d3
 replace d4:=hide d4
 replace d5:=hide d5
 replace k0:=hide k0
 replace z6:=hide z6
 go_enter Tryz.func42,Tryz.ntmps42
 go_wp2_with fail
 clear hmk
 generalize ((((((w.alloc (.cells #[.pointer (some ⟨pa,0,none⟩)] 31)).alloc (.cells #[.int .i64 v] 3)).alloc (.cells #[.map none,.slice none 0 0] 92)).alloc (.map #[] 0)).alloc (.cells #[.map (some (w.heap.size+1+1+1)),.slice none 0 0] 92)).alloc (.cells #[.func (.func 78) #[] #[.pointer (some ⟨w.heap.size+1+1+1+1,0,none⟩),.pointer (some ⟨w.heap.size,0,none⟩),.pointer (some ⟨w.heap.size+1,0,none⟩),.pointer (some ⟨w.heap.size+1+1+1+1+1,0,none⟩)]] 94))=w5 at*
 have hLS:LS w ⟨w.heap.size+1+1+1+1,w.heap.size,w.heap.size+1,w.heap.size+1+1+1+1+1,w.heap.size+1+1+1⟩ pa pm kk v L F w5 [] (.map []):=
  {
   k:=k0.out
   a:=hA
   g:=hg
   b:=⟨d5.out,d1.out,d2.out,c6.out⟩
   bb:=fun b hb=>by
    unfold Lb.var at hb
    dsimp only at hb
    omega
   nm:=fun hb=>by
    unfold Lb.var at hb
    dsimp only at hb
    omega
   m:=d4.out
   d:=fun x _=>by simp[Maps.has]
   j:=fun x hx=>absurd hx List.not_mem_nil
   c:=fun x hx=>absurd hx List.not_mem_nil
   nd:=List.nodup_nil}
 refine(look_n (B:=⟨w.heap.size+1+1+1+1,w.heap.size,w.heap.size+1,w.heap.size+1+1+1+1+1,w.heap.size+1+1+1⟩) hL h0 hkk (id.toNat+1) id (by have:=ho.1;omega) ho hp w5 [] (.map []) hLS).mono ?_
 rintro e w6 ⟨b,Vis,D,rfl,hb,hS,-,hi,-,hk6⟩
 have hr3:=(hk6.block (w.heap.size+1+1) (lt_of_block d3.out) (fun e=>by dsimp only at e;omega)).trans d3.out
 have u3:=cell_of_row w6 (w.heap.size+1+1) 0 _ _ (0,0) hr3
 have u4:=cell_of_row w6 (w.heap.size+1+1) 1 _ _ (0,0) hr3
 have f3:=frozen_of_row w6 (w.heap.size+1+1) 0 _ _ hr3
 have f4:=frozen_of_row w6 (w.heap.size+1+1) 1 _ _ hr3
 have hend:Hid (((w6.setCell ⟨w.heap.size+1+1,0,none⟩ (.map (some (w.heap.size+1+1+1)))).setCell ⟨w.heap.size+1+1,1,none⟩ (.slice none 0 0)).heap[w.heap.size+1+1]? =some (.cells #[.map (some (w.heap.size+1+1+1)),.slice none 0 0] 92 (0,0))):=hide (heap_setCell_same _ _ 1 _ _ _ (heap_setCell_same _ _ 0 _ _ _ hr3))
 have hfin:Hid (PlP w v L id (.returned (.agg #[.map (some (w.heap.size+1+1+1)),.slice none 0 0])) ((w6.setCell ⟨w.heap.size+1+1,0,none⟩ (.map (some (w.heap.size+1+1+1)))).setCell ⟨w.heap.size+1+1,1,none⟩ (.slice none 0 0))):=hide ⟨_,Vis,D,rfl,by omega,(⟨hS.m,hS.d,hS.j,hS.c⟩:MK w6 _ v L Vis D).move (by rw[heap_setCell_other _ _ _ _ (by dsimp only;omega),heap_setCell_other _ _ _ _ (by dsimp only;omega)]),hi,(hS.k.setCell (by dsimp only;omega) _).setCell (by dsimp only;omega) _⟩
 have hpb:=hS.b.hp
 dsimp only at hpb
 have u0:=cell_of_row w6 (w.heap.size+1+1+1+1) 0 _ _ (0,0) hpb
 have u1:=cell_of_row w6 (w.heap.size+1+1+1+1) 1 _ _ (0,0) hpb
 clear hS hLS c6 d1 d2 d3 d4 d5 k0 z6 hA hg hb hk6 hr3
 go_wp2_with fail
 refine bodyPost_ret (results_cell_row rfl _ _ (w.heap.size+1+1) 92 _ (0,0) _ rfl hend.out Tryz.underlying92 rfl k_f) rfl ?_
 exact hfin.out
def stD (D:DataW Value)(x:Int):Bool:=match D.atKey (.int .i64 x) (.lit (.bool false))with
 | .lit (.bool b)=> !b
 |_=>true
theorem lacks12_n {bm:Nat}{Vis:List Int}{D:DataW Value}{x:Int}{ab:Option Addr}{nb cb:Nat}(h:MK w bm v L Vis D)(hI:I64 x):
  Calls Tryz.prog 43 #[.agg #[.map (some bm),.slice ab nb cb],.int .i64 x] w fun e w'=>e= .returned (.bool (stD D x))∧Below w.heap.size w w':=by
 have hky:=keyOf_i hI
 have hz0: ∀w:World,(zeroValue 142).run Tryz.prog w= .ok (.agg #[.bool false]) w:=fun w=>by kernel_rfl
 have b1:=below_alloc w (.cells #[.map (some bm),.slice ab nb cb] 92)
 have hm:=(h.move (b1.block bm (lt_of_map h.m))).m
 have c1:=heap_alloc_new w (.cells #[.map (some bm),.slice ab nb cb] 92)
 have u0:=cell_of_row _ w.heap.size 0 _ _ (0,0) c1
 have u1:=cell_of_row _ w.heap.size 1 _ _ (0,0) c1
 have hfd: ∀(w:World) (b:Bool),(Instr.field 142 (.agg #[.bool b]) 0).run Tryz.prog w= .ok (.bool b) w:=fun w b=>by kernel_rfl
 obtain⟨u,ps,hrun,hu⟩:=hm.lookup tk Tryz.underlying90 (hz0 _) (markR_mk false) hky
 obtain⟨b,rfl,e⟩:=markR_inv hu
 have hst:Hid (stD D x= !b):=hide (by unfold stD;injection e with e1;rw[e1])
 replace b1:=hide b1
 clear h c1 hm hu e
 go_enter Tryz.func43,Tryz.ntmps43
 go_wp2_with fail
 go_ret
 exact⟨by rw[hst.out];rfl,b1.out⟩
end Sb
end Nt
end Go.Proofs.YtbgpddlcfiiiaaaGreatDoor

namespace Go.Proofs.YtbgpddlcfiiiaaaGreatDoor
open Tm At
namespace Nt
namespace Sb

variable {a a':Atm}{v uk:Int}{us:List (Int × Int)}
theorem limbs_lt : ∀(n m:Nat),(limbs m).length≤n↔m<4294967296^n
 |0,m=>by
  rw[limbs_def]
  by_cases h:m=0
  ·simp[h]
  simp[h]
 |n+1,m=>by
  rw[limbs_def]
  by_cases h:m=0
  ·simp[h,Nat.pow_pos]
  rw[dif_neg h,List.length_cons,Nat.add_le_add_iff_right,limbs_lt n,Nat.pow_succ,Nat.div_lt_iff_lt_mul (by decide)]
theorem lim_lt {z:Int}{n:Nat}:lim z≤n↔z.natAbs<4294967296^n:=limbs_lt n _
theorem eachP_mem {F:Int→Int}{qs:List (Int × Int)}{p:Int × Int}(h:p∈eachP F qs): ∃q∈qs,p=(q.1,F q.2):=by
 unfold eachP at h
 obtain⟨q,hq,rfl⟩:=List.mem_map.1 (List.mem_filter.1 h).1
 exact⟨q,hq,rfl⟩
def Mg (M:Nat)(a:Atm):Prop:=a.d.natAbs≤M∧a.k.natAbs≤M∧∀p∈a.ps,p.2.natAbs≤M
theorem mg_0 (M:Nat)(kd:Int):Mg M ⟨kd,0,[],0⟩:=⟨by simp,by simp,fun p hp=>by cases hp⟩
theorem emod_abs (x:Int){D:Int}(h:0<D):(x%D).natAbs≤D.natAbs:=by
 have h1:=Int.emod_nonneg x (show D≠0 by omega)
 have h2:=Int.emod_lt_of_pos x h
 omega
theorem formA_mg {kind d:Int}{qs:List (Int × Int)}{k:Int}{M:Nat}(h:formA kind d qs k= .inl a)(hd:d.natAbs≤M)(hk:k.natAbs≤M)(hq: ∀p∈qs,p.2.natAbs≤M):Mg (M+2) a:=by
 unfold formA at h
 by_cases h1:kind=0∨kind=1
 ·rw[if_pos h1]at h
  injection h with h
  rw[←h]
  exact mg_0 _ _
 rw[if_neg h1]at h
 by_cases h2:kind=2
 ·rw[if_pos h2]at h
  injection h with h
  rw[←h]
  unfold lessF
  split
  ·exact mg_0 _ _
  refine⟨by simp,?_,fun p hp=> ?_⟩
  ·have h3:=Int.natAbs_ediv_le_natAbs (k-1) (gcdL 0 qs:Nat)
   dsimp only
   omega
  dsimp only at hp
  obtain⟨q,hq',rfl⟩:=eachP_mem hp
  have h3:=Int.natAbs_ediv_le_natAbs q.2 (gcdL 0 qs:Nat)
  have h4:=hq q hq'
  dsimp only
  omega
 rw[if_neg h2]at h
 by_cases h3:kind=3∨kind=4
 ·rw[if_pos h3]at h
  by_cases h4:d=0
  ·rw[if_pos h4]at h
   cases h
  rw[if_neg h4]at h
  injection h with h
  rw[←h]
  unfold divF divG
  split
  ·exact mg_0 _ _
  split
  ·exact mg_0 _ _
  have hD:(0:Int)<(d.natAbs:Int):=by omega
  have hg:=(gcdL_dvd d.natAbs (eachP (fun x=>x%(d.natAbs:Int)) qs)).1
  generalize gcdL d.natAbs (eachP (fun x=>x%(d.natAbs:Int)) qs)=g at*
  have hdg:=Int.natAbs_ediv_le_natAbs (d.natAbs:Int) (g:Int)
  have hdp:0<(d.natAbs:Int) / (g:Int):=by
   obtain⟨c,hc⟩:=hg
   have hg0:0<g:=Nat.pos_of_ne_zero fun e=>by rw[e]at hc;simp at hc;omega
   have hc0:0<c:=Nat.pos_of_ne_zero fun e=>by rw[e]at hc;simp at hc;omega
   rw[hc,Int.natCast_mul,Int.mul_ediv_cancel_left _ o_m]
   omega
  unfold fstF
  split
  ·refine⟨by dsimp only;omega,?_,fun p hp=> ?_⟩
   ·have:=emod_abs (-(k%(d.natAbs:Int) / (g:Int))) hdp
    dsimp only
    omega
   dsimp only at hp
   unfold oppP at hp
   obtain⟨q,_,rfl⟩:=eachP_mem hp
   have:=emod_abs q.2 hdp
   dsimp only
   omega
  refine⟨by dsimp only;omega,?_,fun p hp=> ?_⟩
  ·have h5:=Int.natAbs_ediv_le_natAbs (k%(d.natAbs:Int)) (g:Int)
   have h6:=emod_abs k hD
   dsimp only
   omega
  dsimp only at hp
  obtain⟨q,hq',rfl⟩:=eachP_mem hp
  obtain⟨q2,_,rfl⟩:=eachP_mem hq'
  have h5:=Int.natAbs_ediv_le_natAbs (q2.2%(d.natAbs:Int)) (g:Int)
  have h6:=emod_abs q2.2 hD
  dsimp only at*
  omega
 rw[if_neg h3]at h
 cases h
def PutA (v:Int)(us:List (Int × Int))(uk:Int)(a a':Atm):Prop:=∃rs,Std rs∧(∀u,csum rs u=csum (wo v a.ps++scl (csum a.ps v) us) u)∧formA a.kind a.d rs (a.k+csum a.ps v*uk)= .inl a'
theorem putA_fit (v:Int)(us:List (Int × Int))(uk:Int):TFit (PutA v us uk):=fun _ _ ⟨_,h1,_,h3⟩=>formA_fit h1 h3
theorem csum_abs {ps:List (Int × Int)}(hs:Std ps){A:Nat}(h: ∀p∈ps,p.2.natAbs≤A)(u:Int):(csum ps u).natAbs≤A:=by
 by_cases e:csum ps u=0
 ·rw[e]
  simp
 obtain⟨p,hp,rfl⟩:=csum_mem e
 rw[std_csum_mem hs hp]
 exact h p hp
theorem putA_lim {n m:Nat}(h:PutA v us uk a a')(ha:Std a.ps)(hu:Std us)(hd:lim a.d≤n)(hk:lim a.k≤n)(hp: ∀p∈a.ps,lim p.2≤n)(huk:lim uk≤m)(hup: ∀p∈us,lim p.2≤m):lim a'.d≤n+m+1∧lim a'.k≤n+m+1∧∀p∈a'.ps,lim p.2≤n+m+1:=by
 obtain⟨rs,h1,h2,h3⟩:=h
 simp only[lim_lt]at hd hk huk ⊢
 have hp2: ∀p∈a.ps,p.2.natAbs≤4294967296^n-1:=fun p hp'=>by have:=lim_lt.1 (hp p hp');omega
 have hup2: ∀p∈us,p.2.natAbs≤4294967296^m-1:=fun p hp'=>by have:=lim_lt.1 (hup p hp');omega
 have hX:4294967296^(n+m+1)=4294967296^n*4294967296^m*4294967296:=by rw[Nat.pow_succ,Nat.pow_add]
 have hn1:0<4294967296^n:=Nat.pow_pos (by decide)
 have hm1:0<4294967296^m:=Nat.pow_pos (by decide)
 have hc:=csum_abs ha hp2
 have hcu:=csum_abs hu hup2
 rw[hX]
 generalize 4294967296^n=X at*
 generalize 4294967296^m=Y at*
 have hmul: ∀x y:Int,x.natAbs≤X-1→y.natAbs≤Y-1→∀z:Int,z.natAbs≤X-1→(z+x*y).natAbs≤X*Y:=fun x y hx hy z hz=>by
  have h5:(x*y).natAbs≤(X-1)*(Y-1):=by rw[Int.natAbs_mul];exact Nat.mul_le_mul hx hy
  have h6:=Int.natAbs_add_le z (x*y)
  have h7:(X-1)+(X-1)*(Y-1)≤X*Y:=by
   obtain⟨X',rfl⟩: ∃X',X=X'+1:=⟨X-1,by omega⟩
   obtain⟨Y',rfl⟩: ∃Y',Y=Y'+1:=⟨Y-1,by omega⟩
   simp only[Nat.add_sub_cancel]
   rw[Nat.add_mul,Nat.mul_add]
   omega
  omega
 have hXY:0<X*Y:=Nat.mul_pos hn1 hm1
 have hM:=formA_mg (M:=X*Y) h3 (by
  have:X≤X*Y:=Nat.le_mul_of_pos_right X hm1
  omega) (hmul _ _ (hc v) o_m a.k o_m) fun p hp'=>by
  rw[←std_csum_mem h1 hp',h2,csum_append,csum_scl,csum_wo]
  refine hmul _ _ (hc v) (hcu _) _ ?_
  split
  ·simp
  exact hc _
 exact⟨by have:=hM.1;omega,by have:=hM.2.1;omega,fun p hp'=>by have:=hM.2.2 p hp';omega⟩
theorem putA_sat (h:PutA v us uk a a')(f:Int→Int):Sat a' f↔Sat a fun u=>if u=v then uk+ev us f else f u:=by
 obtain⟨rs,h1,h2,h3⟩:=h
 rw[formA_sat h1 h3 f]
 have e1:ev rs f=ev (wo v a.ps) f+csum a.ps v*ev us f:=by rw[ev_congr h2 f,ev_append,ev_scl]
 have e2:ev a.ps (fun u=>if u=v then uk+ev us f else f u)=csum a.ps v*(uk+ev us f)+ev (wo v a.ps) f:=by
  rw[ev_split v a.ps,if_pos rfl]
  congr 1
  refine ev_congr_on fun u hu=> ?_
  rw[csum_wo]at hu
  by_cases e:u=v
  ·rw[if_pos e]at hu
   exact absurd rfl hu
  rw[if_neg e]
 have e3:a.k+csum a.ps v*uk+ev rs f=a.k+ev a.ps (fun u=>if u=v then uk+ev us f else f u):=by
  rw[e1,e2,Int.mul_add]
  omega
 unfold Sat
 dsimp only
 rw[e3]
theorem putA_vars (h:PutA v us uk a a'){u c:Int}(hu:(u,c)∈a'.ps):((∃c,(u,c)∈a.ps)∧u≠v)∨ ∃c,(u,c)∈us:=by
 obtain⟨rs,h1,h2,h3⟩:=h
 have hf:=formA_fit h1 h3
 have h4:csum a'.ps u≠0:=by
  rw[std_csum_mem hf.std hu]
  exact hf.std.2 _ hu
 have h5:=(formA_prt h1 h3).2 u h4
 rw[h2,csum_append,csum_scl,csum_wo]at h5
 by_cases e:csum us u=0
 ·rw[e,Int.mul_zero,Int.add_zero]at h5
  by_cases e2:u=v
  ·rw[if_pos e2]at h5
   exact absurd rfl h5
  rw[if_neg e2]at h5
  obtain⟨p,hp,rfl⟩:=csum_mem h5
  exact .inl ⟨⟨p.2,hp⟩,e2⟩
 obtain⟨p,hp,rfl⟩:=csum_mem e
 exact .inr ⟨p.2,hp⟩
theorem putA_same (hf:Fit a)(h: ∀c,(v,c)∉a.ps):PutA v us uk a a:=by
 have h0:csum a.ps v=0:=csum_none fun p hp e=>h p.2 (by rw[←e];exact hp)
 refine⟨a.ps,hf.std,fun u=> ?_,?_⟩
 ·rw[h0,csum_append,csum_scl,csum_wo]
  by_cases e:u=v
  ·rw[e,h0]
   simp
  rw[if_neg e]
  simp
 rw[h0,Int.zero_mul,Int.add_zero]
 exact hf.again
end Sb
end Nt
end Go.Proofs.YtbgpddlcfiiiaaaGreatDoor

namespace Go.Proofs.YtbgpddlcfiiiaaaGreatDoor
open Go.RowKit Go.Sort Go.Shelf
open Tm At
namespace Nt
namespace Sb

variable {w:World}{ad:Option Addr}
theorem fr_in {F:Nat}{a:Option Addr}{l c:Nat}(h:Fresh.Fr F w a c)(hl:l≤c):InF (fun b=>F≤b) a l:=fun b off e h0=>by
 rcases h with⟨h1,h2⟩|⟨b',xs,h1,h2,_⟩
 ·omega
 rw[h1]at e
 injection e with e
 injection e with e1
 rw[←e1]
 exact h2
theorem nw_pnF {F:Nat}{n cp:Nat}{a:Option Addr}{l c:Nat}{ps:List (Int × Int)}{B:Nat}(hP:Pn w ad n ps B)(h:Fresh.NW F w ad n cp a l c):PnF (fun b=>F≤b) w ad n ps B∧InF (fun b=>F≤b) a l:=by
 obtain⟨L,h1,h2,h3,h4⟩:=h
 refine⟨⟨hP.1,?_⟩,fr_in h4 h3⟩
 rcases hP.2 with h0|⟨b,off,rfl,hb,hc⟩
 ·exact .inl h0
 rcases h1 with⟨e,_⟩|⟨g,e,hg,hr,hl,hn,_⟩
 ·injection e with e
  cases e
 injection e with e
 injection e with e
 injection e with e1 e2
 subst e1 e2
 refine .inr ⟨b,0,rfl,hg,hb,fun i hi=> ?_⟩
 obtain⟨s',a',l',c',g1,g2,g3,g4,g5,g6⟩:=hc i hi
 have hiL:i<L.length:=by have:=hP.1;omega
 have hcell:=hr.c2 hiL
 have g3':=g3
 rw[Nat.zero_add,hcell]at g3'
 injection g3' with g3'
 injection g3' with e1 e2 e3
 have h5:=h2 L[i] (List.getElem_mem _)
 exact⟨s',a',l',c',g1,g2,g3,g4,e1▸e2▸fr_in h5.2 h5.1,g5,g6⟩
theorem pn_lims {n:Nat}{ps:List (Int × Int)}{B:Nat}(h:Pn w ad n ps B): ∀p∈ps,lim p.2≤B:=fun p hp=>by
 obtain⟨i,hi,rfl⟩:=List.getElem_of_mem hp
 rcases h.2 with h0|⟨b,off,_,_,hc⟩
 ·have:=h.1
  omega
 obtain⟨s,a,l,c,_,_,_,g4,g5,_⟩:=hc i hi
 rw[←zn_limb g4]
 exact g5
theorem fill_n {v:Int}{apu:Option Addr}{nu cpu:Nat}{su:Bool}{au:Option Addr}{lu cu:Nat}{us:List (Int × Int)}{uk:Int}{a:Atm}{sd:Bool}{ld cd:Nat}{ap:Option Addr}{np cp:Nat}{sk:Bool}{ak:Option Addr}{lk ck:Nat}(hv:I64 v)(hPu:Pn w apu nu us 1258400)(hzu:Zn w su au lu cu uk)(hlu:lu≤1258400)(hus:Std us)(hf:Fit a)(hd:Zn w sd ad ld cd a.d)(hP:Pn w ap np a.ps 8)(hk:Zn w sk ak lk ck a.k)(hdl:lim a.d≤8)(hkl:lim a.k≤8)(hn:np+nu≤209716):
  Calls Tryz.prog 47 #[.agg #[.int .i64 v,.slice apu nu cpu,.bool su,.slice au lu cu],.agg #[.int .i64 a.kind,.bool sd,.slice ad ld cd,.slice ap np cp,.bool sk,.slice ak lk ck]] w fun e w'=> ∃a',PutA v us uk a a'∧a'.ps.length≤209716∧AtB w' e a' 1500000∧Below w.heap.size w w':=by
 have b1:=below_alloc w (.cells #[.int .i64 v,.slice apu nu cpu,.bool su,.slice au lu cu] 99)
 have b2:=below_alloc (w.alloc (.cells #[.int .i64 v,.slice apu nu cpu,.bool su,.slice au lu cu] 99)) (.cells #[.int .i64 a.kind,.bool sd,.slice ad ld cd,.slice ap np cp,.bool sk,.slice ak lk ck] 57)
 have x3:=AB.new ((w.alloc (.cells #[.int .i64 v,.slice apu nu cpu,.bool su,.slice au lu cu] 99)).alloc (.cells #[.int .i64 a.kind,.bool sd,.slice ad ld cd,.slice ap np cp,.bool sk,.slice ak lk ck] 57)) 0 false none 0 0 none 0 0 false none 0 0
 have b3:=below_alloc ((w.alloc (.cells #[.int .i64 v,.slice apu nu cpu,.bool su,.slice au lu cu] 99)).alloc (.cells #[.int .i64 a.kind,.bool sd,.slice ad ld cd,.slice ap np cp,.bool sk,.slice ak lk ck] 57)) (.cells #[.int .i64 0,.bool false,.slice none 0 0,.slice none 0 0,.bool false,.slice none 0 0] 57)
 have z3:(((w.alloc (.cells #[.int .i64 v,.slice apu nu cpu,.bool su,.slice au lu cu] 99)).alloc (.cells #[.int .i64 a.kind,.bool sd,.slice ad ld cd,.slice ap np cp,.bool sk,.slice ak lk ck] 57)).alloc (.cells #[.int .i64 0,.bool false,.slice none 0 0,.slice none 0 0,.bool false,.slice none 0 0] 57)).heap.size=w.heap.size+1+1+1:=by simp
 rw[show((w.alloc (.cells #[.int .i64 v,.slice apu nu cpu,.bool su,.slice au lu cu] 99)).alloc (.cells #[.int .i64 a.kind,.bool sd,.slice ad ld cd,.slice ap np cp,.bool sk,.slice ak lk ck] 57)).heap.size=w.heap.size+1+1 by simp]at x3
 have k3:=grow_step b3 (grow_step b2 b1)
 have hc:=aput_n (B:=1258400) (cp:=cp) (cpu:=cpu) (kd:=a.kind) (hd.below k3).zm (by rw[zn_limb hd];omega) ((hP.below k3).mono o_m).pr (hk.below k3).zm (by rw[zn_limb hk];omega) hv (hPu.below k3).pr (hzu.below k3).zm hlu o_m o_m
 replace hc:=hide hc
 clear b1 b2 b3
 go_enter Tryz.func47,Tryz.ntmps47
 go_wp2_with fail
 refine hc.out.mono ?_
 rintro e w4 ⟨qs,hq1,hq2,hq3,k4⟩
 clear hc
 obtain rfl:qs=a.ps:=std_unique hq1 hf.std hq2
 rw[hf.again]at hq3
 obtain⟨rs,f',hr1,hr2,hr3,sd2,ad2,ld2,cd2,ap2,np2,cp2,sk2,ak2,lk2,ck2,rfl,z1,-,z2,-,z3',-,hfr⟩:=hq3
 have hpa:PutA v us uk a f':=⟨rs,hr1,hr2,hr3⟩
 have hnl:=pn_lims hP
 have hul:=pn_lims hPu
 have hlm:=putA_lim (n:=8) (m:=1258400) hpa hf.std hus hdl hkl hnl (by rw[←zn_limb hzu];exact hlu) hul
 have hlen:f'.ps.length≤209716:=by
  have h1:=(formA_prt hr1 hr3).1
  have h2:=std_len hr1 hr2
  have h3:=wo_length_le v a.ps
  have h4:=hPu.1
  have h5:=hP.1
  simp only[List.length_append,scl,List.length_map]at h2
  omega
 have x4:=x3.below k4
 have g0:=x4.c0
 have g1:=x4.c1
 have g2:=x4.c2
 have g3:=x4.c3
 have g4:=x4.c4
 have g5:=x4.c5
 have h0:=x4.f 0
 have h1:=x4.f 1
 have h2:=x4.f 2
 have h3:=x4.f 3
 have h4:=x4.f 4
 have h5:=x4.f 5
 have hU:NoU w4 (w.heap.size+1+1):=ab_noU x4
 have gg:=gb6 w4 (w.heap.size+1+1) (.int .i64 f'.kind) (.bool sd2) (.slice ad2 ld2 cd2) (.slice ap2 np2 cp2) (.bool sk2) (.slice ak2 lk2 ck2)
 have hend:=hide (ab_fin x4 f'.kind sd2 ad2 ld2 cd2 ap2 np2 cp2 sk2 ak2 lk2 ck2)
 have hres:Hid (∃a',PutA v us uk a a'∧a'.ps.length≤209716∧AtB ((((((w4.setCell ⟨w.heap.size+1+1,0,none⟩ (.int .i64 f'.kind)).setCell ⟨w.heap.size+1+1,1,none⟩ (.bool sd2)).setCell ⟨w.heap.size+1+1,2,none⟩ (.slice ad2 ld2 cd2)).setCell ⟨w.heap.size+1+1,3,none⟩ (.slice ap2 np2 cp2)).setCell ⟨w.heap.size+1+1,4,none⟩ (.bool sk2)).setCell ⟨w.heap.size+1+1,5,none⟩ (.slice ak2 lk2 ck2)) (.returned (.agg #[.int .i64 f'.kind,.bool sd2,.slice ad2 ld2 cd2,.slice ap2 np2 cp2,.bool sk2,.slice ak2 lk2 ck2])) a' 1500000∧Below w.heap.size w ((((((w4.setCell ⟨w.heap.size+1+1,0,none⟩ (.int .i64 f'.kind)).setCell ⟨w.heap.size+1+1,1,none⟩ (.bool sd2)).setCell ⟨w.heap.size+1+1,2,none⟩ (.slice ad2 ld2 cd2)).setCell ⟨w.heap.size+1+1,3,none⟩ (.slice ap2 np2 cp2)).setCell ⟨w.heap.size+1+1,4,none⟩ (.bool sk2)).setCell ⟨w.heap.size+1+1,5,none⟩ (.slice ak2 lk2 ck2))):=hide ⟨f',hpa,hlen,⟨sd2,ad2,ld2,cd2,ap2,np2,cp2,sk2,ak2,lk2,ck2,rfl,z1.grownU gg hU,by rw[zn_limb z1];omega,(pn_limb z2 fun p hp=>Nat.le_trans (hlm.2.2 p hp) o_m).away (fun b off e=>by have:=hfr b off e;omega) gg hU,z3'.grownU gg hU,by rw[zn_limb z3'];omega⟩,(grow_step k4 k3).grown gg (grow_step k4 k3).size fun b hb=>by injection hb with hb;omega⟩
 clear hr1 hr2 hr3 hq1 hq2 z1 z2 z3' hfr hpa hnl hul hlm hlen x3 x4 hU gg hv hPu hzu hlu hus hf hd hP hk hdl hkl hn k3 k4 z3
 generalize f'.kind=kd2 at*
 generalize a.kind=kd at*
 go_wp2_with fail
 refine bodyPost_ret (results_cell_row rfl _ _ (w.heap.size+1+1) 57 _ (0,0) _ rfl hend.out Tryz.underlying57 rfl k_f) rfl ?_
 exact hres.out
end Sb
end Nt
namespace Nt
namespace Sb

theorem missing_n {w:World}{pa pm:Nat}{kk:Int}{L:List Nd}{F:Nat→Prop}{id:Int}(hA:AX w pa pm L F)(hg:Gv kk L)(h0:0≤kk)(hkk:kk≤8)(hL:L.length≤2002)(ho:okI L id):
  Calls Tryz.prog 41 #[.pointer (some ⟨pa,0,none⟩),.int .i64 id] w fun e w'=>e= .returned (.int .i64 0)∧Below w.heap.size w w':=by
 have hnode:=hide (node9_n (B:=8) hA hg h0 hkk o_m id)
 go_enter Tryz.func41,Tryz.ntmps41
 go_wp2_with fail
 refine hnode.out.mono ?_
 rintro e w5 (⟨-,x,rfl,-,k5⟩|⟨hok,rfl,k5⟩)
 rotate_left
 ·exact absurd ho hok
 obtain⟨kdn,sd,ad,ld,cd,ap,np,cp,sk,ak,lk,ck,vr,kka,kkn,kkc⟩:=x
 simp only[nE]
 have k6:=hide (grow_step (below_alloc w5 (.cells #[.int .i64 kdn,.bool sd,.slice ad ld cd,.slice ap np cp,.bool sk,.slice ak lk ck,.int .i64 vr,.slice kka kkn kkc] 69)) k5)
 clear hnode k5
 go_wp2_with fail
 go_ret
 exact⟨rfl,k6.out⟩
theorem catches_n {w:World}{bm:Nat}{ad:Option Addr}{n cp:Nat}{s:Bool}{a:Option Addr}{l c:Nat}{ps:List (Int × Int)}{k:Int}{B:Nat}(hP:Pr w ad n ps B)(hz:Zm w s a l c k)(hl:l≤B)(hB:B+n≤4194304):
  Calls Tryz.prog 45 #[.agg #[.map (some bm),.slice none 0 0],.agg #[.slice ad n cp,.bool s,.slice a l c]] w fun e w'=>e= .returned (.bool false)∧Below w.heap.size w w':=by
 have b1:=below_alloc w (.cells #[.map (some bm),.slice none 0 0] 92)
 have b2:=below_alloc (w.alloc (.cells #[.map (some bm),.slice none 0 0] 92)) (.cells #[.slice ad n cp,.bool s,.slice a l c] 28)
 have k2:=grow_step b2 b1
 have c1:=(b2.block w.heap.size (by simp)).trans (heap_alloc_new w (.cells #[.map (some bm),.slice none 0 0] 92))
 have hc:=hide (tvars_n (cp:=cp) (hP.below k2) (hz.below k2) hl o_m)
 have eg: ∀args w,(callFunc 82 args).run Tryz.prog w= .ok (.enter 82 args) w:=fun _ _=>by kernel_rfl
 clear b1 b2 hP hz
 go_enter Tryz.func45,Tryz.ntmps45
 go_wp2_with fail
 refine hc.out.mono ?_
 rintro e w3 ⟨ad',n',cp',qs,rfl,-,-,-,-,k3⟩
 have k4:=below_alloc w3 (.cells #[.slice ad' n' cp'] 33)
 have c4:=(k4.block w.heap.size (Nat.lt_of_lt_of_le (lt_of_block c1) k3.size)).trans ((k3.block _ (lt_of_block c1)).trans c1)
 have u0:=cell_of_row _ w.heap.size 0 _ _ (0,0) c4
 have u1:=cell_of_row _ w.heap.size 1 _ _ (0,0) c4
 have k5:=hide (grow_step k4 (grow_step k3 k2))
 have hcf:=hide (containsF_n (w:=w3.alloc (.cells #[.slice ad' n' cp'] 33)) (ka:=none) (kc:=0) (l:=[]) (q:=fun _=>false) (cb:=#[.pointer (some ⟨w3.heap.size,0,none⟩)]) ⟨rfl,.inl rfl⟩ (by simp) eg fun w' z hz=>absurd hz List.not_mem_nil)
 simp only[List.length_nil,List.any_nil]at hcf
 clear hc k3 k4 c1 c4 k2 eg
 go_wp2_with fail
 refine hcf.out.mono ?_
 rintro e w6 ⟨rfl,k6⟩
 have k7:=hide (grow_step k6 k5.out)
 clear hcf k6 k5 u0 u1
 go_wp2_with fail
 go_ret
 exact⟨rfl,k7.out⟩
theorem stD_at {D:DataW Value}{x:Int}{b:Bool}(h: ∀z,D.atKey (.int .i64 x) z= .lit (.bool b)):stD D x= !b:=by
 unfold stD
 rw[h]
theorem mks_put {w0 w wI:World}{pa pm bmk:Nat}{nn kk v:Int}{s:St}{F:Nat→Prop}{Vis:List Int}{D:DataW Value}{apu:Option Addr}{nu cpu:Nat}{su:Bool}{au:Option Addr}{lu cu:Nat}{us:List (Int × Int)}{uk:Int}{B:Bl}{W1:Nat}(hE:EA w0 w pa pm nn kk s F)(hk8:kk≤8)(hv:I64 v)(hMK:MK w bmk v s.L Vis D)(hbm:W1≤bmk)(hW: ∀b,F b→b<W1)(hWp:pm<W1)(hPu:PnF (fun b=>W1≤b) w apu nu us 1258400)(hzu:Zn w su au lu cu uk)(hiu:InF (fun b=>W1≤b) au lu)(hlu:lu≤1258400)(hus:Std us)(hps: ∀i,okI s.L i→(ndI s.L i).ps.length+nu≤209716)(hL:s.L.length≤2002)(kI:Below w.heap.size w wI)(hB:w.heap.size≤B.bm):
  Mks w0 wI F B pa pm 43 #[.agg #[.map (some bmk),.slice none 0 0]] #[] (.func (.func 47) #[.agg #[.int .i64 v,.slice apu nu cpu,.bool su,.slice au lu cu]] #[]) nn kk s.L (fun x=>x∈Vis∧Pln s.L x) (stD D) (TuJ (PutA v us uk)) (TuR (PutA v us uk) nn kk):=by
 have hap: ∀w',Apt wI F pm B.bm w'→∀b,W1≤b→b<w.heap.size→w'.heap[b]? =w.heap[b]?:=fun w' ha b h1 h2=>
  (ha.block b (Nat.lt_of_lt_of_le h2 kI.size) fun hf=>by
   rcases hf with rfl|hf|rfl
   ·omega
   ·have:=hW b hf
    omega
   omega).trans (kI.block b h2)
 have hsz: ∀w',Apt wI F pm B.bm w'→w.heap.size≤w'.heap.size:=fun w' ha=>Nat.le_trans kI.size ha.size
 have hIx: ∀x,okI s.L x→I64 x:=fun x hx=>by have h1:=hx.1;have h2:=hx.2;unfold I64;omega
 have hst: ∀x∈Vis,(stD D x=true↔ ¬Fv s.L v x):=fun x hx=>by
  obtain⟨_,b,hb,ha⟩:=hMK.j x hx
  rw[stD_at ha]
  cases b
  ·simp at hb
   simp[hb]
  simp at hb
  simp[hb]
 exact
  {sg:=fun args w=>by kernel_rfl
   sf:=fun w' x ha hx ho=>lacks12_n (hMK.move (hap w' ha bmk hbm (lt_of_map hMK.m))) (hIx x ho)
   gk:=fun x hx ho _ k hk=>⟨hMK.c x hx.1 k hk,((her_iff ho).1 hx.2).2 k hk⟩
   jst:=fun s' x hl hg hx ho hs=>by
    have hns:=(hst x hx.1).1 hs
    have ho':okI s'.L x:=by obtain⟨t,e⟩:=hl;rw[e];exact okI_app ho
    refine tuj_stay hg ho' fun y hy hk=>putA_same (hg.atm (dn_ok hg.wk ho' hy) hk).1 fun c hc=>hns ?_
    rw[←fv_le hE.v.wk hl ho,fv_pln ((pln_le hE.v.wk hl ho).2 hx.2)]
    exact⟨y,hy,c,hc⟩
   mo:=fun L L' i j h1 h2 h3 h4 h5 h6=>tuj_le h1.wk h2.wk h3 h4 h5 h6
   kp:=fun s i ks r h hg hi=>h.kp (putA_fit v us uk) hg hi
   er:=fun s i ks r h hg hi ho hl he=>h.er hg hi ho hl he
   js:=fun s i ks r h hg hi hp ho he=>h.tuj (putA_fit v us uk) hg hi hp ho he
   fn:=fun w' s' F' i x ks ka kc hE' ha ho hG _ hl hN hI hok hkl hkF=>by
    have ho':okI s'.L i:=by obtain⟨t,e⟩:=hl;rw[e];exact okI_app ho
    have hnd:ndI s'.L i=ndI s.L i:=by obtain⟨t,e⟩:=hl;rw[e];exact ndI_app ho
    have hpl:=hG.2 i (dn_self s.L i)
    have hkd:=hE'.v.kinds ho'
    unfold PlnP at hpl
    rw[←hnd]at hpl
    rcases(show(ndI s'.L i).kind=5∨(ndI s'.L i).kind=6∨(ndI s'.L i).kind<5 by omega)with hk|hk|hk
    ·exact remade5 hE' ho' hk hN hI hkl
    ·exact remade6 hE' ho' hk hN hI hkl
    refine remade0 (putA_fit v us uk) hE' ho' hk hk8 hN (fun args w=>by kernel_rfl) fun w2 sd ad ld cd ap np cp sk ak lk ck k2 zd zp zk=> ?_
    have hmv: ∀b,W1≤b→b<w.heap.size→w2.heap[b]? =w.heap[b]?:=fun b h1 h2=>(k2.block b (Nat.lt_of_lt_of_le h2 (hsz w' ha))).trans (hap w' ha b h1 h2)
    have hs2:w.heap.size≤w2.heap.size:=Nat.le_trans (hsz w' ha) k2.size
    have hPu2:=(hPu.move (G:=fun _=>True) hs2 (fun b h1 h2=>hmv b h1 h2) fun _ _ _=>trivial).pn
    have hzu2:=zn_move hzu hs2 fun b off e h0=>hmv b (hiu b off e h0) (zn_lt hzu e h0)
    have hnum:=hE'.v.numb hE'.k0 ho'
    exact fill_n (a:=atmN (ndI s'.L i)) hv hPu2 hzu2 hlu hus (hE'.v.atm ho' hk).1 zd zp zk (by have:=hnum (ndI s'.L i).d (by simp[Nt.nums]);unfold atmN;dsimp only;omega) (by have:=hnum (ndI s'.L i).k (by simp[Nt.nums]);unfold atmN;dsimp only;omega) (by have h1:=hps i ho;have h2:=zp.1;rw[hnd]at h2;omega)}
end Sb
end Nt
namespace Nt
namespace Sb

def PuP (nn kk v:Int)(us0:List (Int × Int))(uk:Int)(w w':World)(e:Ending)(pa pm:Nat)(s:St)(F:Nat→Prop)(id:Int):Prop:=
 ∃us r,Std us∧(∀u,csum us u=csum us0 u)∧AO2 w w' e pa pm nn kk F r∧Kp kk s r∧(r.2.2=0→TuJ (PutA v us uk) r.1.L id r.2.1)∧(r.2.2≠0→r.1.er≠0)∧((ndI s.L id).kids= []→(∃c,(v,c)∈(ndI s.L id).ps)→TuR (PutA v us uk) nn kk s id [] r)
theorem put12_n {w0 w:World}{pa pm:Nat}{nn kk v:Int}{s:St}{F:Nat→Prop}{id:Int}{apu:Option Addr}{nu cpu:Nat}{su:Bool}{au:Option Addr}{lu cu:Nat}{us0:List (Int × Int)}{uk:Int}{B:Nat}(hE:EA w0 w pa pm nn kk s F)(hk8:kk≤8)(ho:okI s.L id)(hp:Pln s.L id)(hv:I64 v)(hP:Pr w apu nu us0 B)(hz:Zm w su au lu cu uk)(hlu:lu≤B)(hB:B≤1048600)(hps: ∀i,okI s.L i→(ndI s.L i).ps.length+nu≤209716):
  Calls Tryz.prog 11 #[.pointer (some ⟨pa,0,none⟩),.int .i64 id,.int .i64 v,.agg #[.slice apu nu cpu,.bool su,.slice au lu cu]] w fun e w'=>PuP nn kk v us0 uk w w' e pa pm s F id:=by
 have hL:s.L.length≤2002:=by
  have h1:=hE.g.ln
  have h2:=hE.g.cn
  have h3:=hE.g.n2
  omega
 have hI:I64 id:=by have h1:=ho.1;have h2:=ho.2;unfold I64;omega
 have hnu:nu≤209716:=by have:=hps id ho;omega
 have b1:=below_alloc w (.cells #[.slice apu nu cpu,.bool su,.slice au lu cu] 28)
 have c1:=heap_alloc_new w (.cells #[.slice apu nu cpu,.bool su,.slice au lu cu] 28)
 have hm:=hide (missing_n (hE.below b1).g.ax hE.v hE.k0 hk8 hL ho)
 go_enter Tryz.func11,Tryz.ntmps11
 go_wp2_with fail
 refine hm.out.mono ?_
 rintro e w2 ⟨rfl,k2⟩
 clear hm
 have hpl:=hide (placesOf_n (v:=v) (hE.below (grow_step k2 b1)).g.ax hE.v hL hE.k0 hk8 ho hp)
 go_wp2_with fail
 refine hpl.out.mono ?_
 rintro e w3 ⟨bm,Vis,D,rfl,hbm,hMK,hin,k3⟩
 clear hpl
 have k03:=grow_step k3 (grow_step k2 b1)
 have b4:=below_alloc w3 (.cells #[.map (some bm),.slice none 0 0] 92)
 have c4:=heap_alloc_new w3 (.cells #[.map (some bm),.slice none 0 0] 92)
 have u0:=cell_of_row _ w3.heap.size 0 _ _ (0,0) c4
 have u1:=cell_of_row _ w3.heap.size 1 _ _ (0,0) c4
 have hMK4:=hMK.move (b4.block bm (lt_of_map hMK.m))
 have hlk:=hide (lacks12_n (x:=id) (ab:=none) (nb:=0) (cb:=0) hMK4 hI)
 have k04:=grow_step b4 k03
 have hw2:=(grow_step k2 b1).size
 have hs4:w3.heap.size<(w3.alloc (.cells #[.map (some bm),.slice none 0 0] 92)).heap.size:=by simp
 go_wp2_with fail
 refine hlk.out.mono ?_
 rintro e w5 ⟨rfl,k5⟩
 clear hlk u0 u1
 generalize w3.alloc (.cells #[.map (some bm),.slice none 0 0] 92)=w4 at*
 have k05:=grow_step k5 k04
 have hMK5:=hMK4.move (k5.block bm (lt_of_map hMK4.m))
 have c15:w5.heap[w.heap.size]? =some (.cells #[.slice apu nu cpu,.bool su,.slice au lu cu] 28 (0,0)):=(k5.block _ (by have:=k3.size;have:=b4.size;have:=lt_of_block c1;omega)).trans ((b4.block _ (by have:=k3.size;have:=lt_of_block c1;have:=k2.size;omega)).trans ((k3.block _ (by have:=lt_of_block c1;have:=k2.size;omega)).trans ((k2.block _ (lt_of_block c1)).trans c1)))
 have hw3:w.heap.size<w2.heap.size:=by have:=lt_of_block c1;have:=k2.size;omega
 clear hMK4
 have hst:stD D id=true→¬Fv s.L v id:=fun h=>by
  obtain⟨_,b,hb,ha⟩:=hMK5.j id hin
  rw[stD_at ha]at h
  intro hf
  rw[hb.2 hf]at h
  cases h
 rcases hsb:stD D id with _|_
 rotate_left
 ·have hnf:=hst hsb
  have hfin:Hid (PuP nn kk v us0 uk w w5 (.returned (.tuple #[.int .i64 id,.int .i64 0])) pa pm s F id):=hide ⟨nz (lays [] us0),(s,id,0),std_lays us0,csum_nzl us0,ao2_now hE.g k05 id 0,kp_now hE.v fun _=>ho,fun _=>tuj_stay hE.v ho fun y hy hk=>putA_same (hE.v.atm (dn_ok hE.v.wk ho hy) hk).1 fun c hc=>hnf ((fv_pln hp).2 ⟨y,hy,c,hc⟩),fun h=>absurd rfl h,fun _ hc=>absurd ((fv_iff ho).2 (.inl hc)) hnf⟩
  clear hE hP hz hMK hMK5 hst hsb hnf hps hp b1 b4 k2 k3 k5 k03 k04 k05 c1 c15 c4
  go_wp2_with fail
  refine bodyPost_ret (results_tmp2 rfl _ _ _) rfl ?_
  exact hfin.out
 have x5:TB w5 w.heap.size apu nu cpu su au lu cu:=c15
 have g0:=x5.c0
 have g1:=x5.c1
 have g2:=x5.c2
 have hw5:w.heap.size<w5.heap.size:=x5.lt
 have c45:w5.heap[w3.heap.size]? =some (.cells #[.map (some bm),.slice none 0 0] 92 (0,0)):=(k5.block _ hs4).trans c4
 have hc:=hide (Fresh.tnorm_n (cp:=cpu) (Nat.le_refl w5.heap.size) (hP.below k05) (hz.below k05) hlu o_m)
 go_wp2_with fail
 refine hc.out.mono ?_
 rintro e w6 ⟨ad',n',cp',s',a',l',c',rs,rfl,hTN,hn',hS,hcs,hNW⟩
 have k6:=hTN.below
 have hPn:Pn w6 ad' n' (rs.map Raw.p) 1258400:=hTN.pn.mono o_m
 obtain⟨hPF,hIF⟩:=nw_pnF hPn hNW
 have hZn:Zn w6 s' a' l' c' uk:=by
  obtain⟨w1,_,_,_,h5,_⟩:=hTN
  exact h5.1
 have hl':l'≤1258400:=by
  obtain⟨w1,_,_,_,_,h6⟩:=hTN
  omega
 have x6:=x5.below k6
 have f0:=x6.f 0
 have f1:=x6.f 1
 have f2:=x6.f 2
 have e0:=x6.c0
 have e1:=x6.c1
 have e2:=x6.c2
 have hk7:ButF (fun b=>b=w.heap.size) w6 (((w6.setCell ⟨w.heap.size,0,none⟩ (.slice ad' n' cp')).setCell ⟨w.heap.size,1,none⟩ (.bool s')).setCell ⟨w.heap.size,2,none⟩ (.slice a' l' c')):=⟨rfl,rfl,rfl,by simp,fun b _ hn=>by rw[heap_setCell_other _ _ _ _ (fun e=>hn e),heap_setCell_other _ _ _ _ (fun e=>hn e),heap_setCell_other _ _ _ _ (fun e=>hn e)]⟩
 have x7:TB (((w6.setCell ⟨w.heap.size,0,none⟩ (.slice ad' n' cp')).setCell ⟨w.heap.size,1,none⟩ (.bool s')).setCell ⟨w.heap.size,2,none⟩ (.slice a' l' c')) w.heap.size ad' n' cp' s' a' l' c':=heap_setCell_same _ _ 2 _ _ _ (heap_setCell_same _ _ 1 _ _ _ (heap_setCell_same _ _ 0 _ _ _ x6))
 have hz3:w.heap.size<w3.heap.size:=by have:=k3.size;omega
 have c47:(((w6.setCell ⟨w.heap.size,0,none⟩ (.slice ad' n' cp')).setCell ⟨w.heap.size,1,none⟩ (.bool s')).setCell ⟨w.heap.size,2,none⟩ (.slice a' l' c')).heap[w3.heap.size]? =some (.cells #[.map (some bm),.slice none 0 0] 92 (0,0)):=(hk7.block _ (by have:=lt_of_block c45;have:=k6.size;omega) o_m).trans ((k6.block _ (lt_of_block c45)).trans c45)
 have k07:Below w.heap.size w (((w6.setCell ⟨w.heap.size,0,none⟩ (.slice ad' n' cp')).setCell ⟨w.heap.size,1,none⟩ (.bool s')).setCell ⟨w.heap.size,2,none⟩ (.slice a' l' c')):=(grow_step k6 k05).trans (hk7.below (fun b e=>Nat.le_of_eq e.symm) (grow_step k6 k05).size)
 have hPF7:=hPF.move (G:=fun b=>w.heap.size≤b) hk7.size (fun b hb hl=>hk7.block b hl o_m) (fun b hb _=>by omega)
 have hZn7:=zn_move hZn hk7.size fun b off e h0=>hk7.block b (zn_lt hZn e h0) (by have:=hIF b off e h0;omega)
 have hIF7:InF (fun b=>w.heap.size≤b) a' l':=hIF.mono fun b hb=>by omega
 have hMK7:=hMK5.move ((hk7.block bm (Nat.lt_of_lt_of_le (lt_of_map hMK5.m) k6.size) o_m).trans (k6.block bm (lt_of_map hMK5.m)))
 have hcat:=hide (catches_n (bm:=bm) (cp:=cp') hPF7.pn.pr hZn7.zm hl' o_m)
 have p0:=cell_of_row _ w3.heap.size 0 _ _ (0,0) c47
 have p1:=cell_of_row _ w3.heap.size 1 _ _ (0,0) c47
 have q0:=x7.c0
 have q1:=x7.c1
 have q2:=x7.c2
 clear hc g0 g1 g2 hPF hZn hIF hMK5 hMK hNW hTN hPn x6 x5 c45 c15 c1 c4 b1 b4 k2 k3 k5 k6 k03 k04 k05
 go_wp2_with fail
 clear f0 f1 f2 e0 e1 e2 hk7 p0 p1 q0 q1 q2
 generalize ((w6.setCell ⟨w.heap.size,0,none⟩ (.slice ad' n' cp')).setCell ⟨w.heap.size,1,none⟩ (.bool s')).setCell ⟨w.heap.size,2,none⟩ (.slice a' l' c')=w7 at*
 refine hcat.out.mono ?_
 rintro e w8 ⟨rfl,k8⟩
 have k08:=grow_step k8 k07
 have hE8:=hE.below k08
 have hMK8:=hMK7.move (k8.block bm (lt_of_map hMK7.m))
 have hPF8:=hPF7.move (G:=fun b=>w.heap.size≤b) k8.size (fun b hb hl=>k8.block b hl) (fun b hb _=>hb)
 have hZn8:=hZn7.below k8
 have hfl:=hE.g.fl
 have hpl:=hE.g.mb.lt
 have htu:=hide (turned_n (fun wI (Bb:Bl) kI hB=>mks_put (cpu:=cp') (B:=Bb) hE8 hk8 hv hMK8 o_m hfl hpl hPF8 hZn8 hIF7 hl' hS (fun i hi=>by have:=hps i hi;omega) hL kI hB) hE8 hI ho ⟨hin,hp⟩)
 have c48:=(k8.block _ (lt_of_block c47)).trans c47
 have x8:=x7.below k8
 have p0:=cell_of_row _ w3.heap.size 0 _ _ (0,0) c48
 have p1:=cell_of_row _ w3.heap.size 1 _ _ (0,0) c48
 have q0:=x8.c0
 have q1:=x8.c1
 have q2:=x8.c2
 have hres:Hid (∀e w',TnR nn kk (stD D) (TuJ (PutA v (rs.map Raw.p) uk)) (TuR (PutA v (rs.map Raw.p) uk) nn kk) w8 w' e pa pm s F id→PuP nn kk v us0 uk w w' e pa pm s F id):=hide fun e w' ⟨r,h1,h2,h3,h4,h5⟩=>⟨rs.map Raw.p,r,hS,hcs,ao2_back k08 h1,h2,h3,h4,fun hk _=>h5 hk hsb⟩
 clear hcat hE hE8 hMK7 hMK8 hPF7 hPF8 hZn7 hZn8 hIF7 c47 c48 x7 x8 k07 k08 k8 hS hcs hps hfl hpl hP hz hp
 go_wp2_with fail
 refine htu.out.mono ?_
 rintro e w9 h9
 have h10:=hide (hres.out e w9 h9)
 obtain⟨r,⟨rfl,-⟩,-⟩:=h9
 clear htu hres p0 p1 q0 q1 q2
 go_wp2_with fail
 refine bodyPost_ret (results_tmp2 rfl _ _ _) rfl ?_
 exact h10.out
end Sb
end Nt
namespace Nt
namespace Sb

structure Stp (kk:Int) (nn:Int) (vs:List (Int × Int)) (Inv:Nat→St→Int→Prop) (Er:Prop):Prop where
 pl: ∀t s c,Inv t s c→Pln s.L c∧okI s.L c
 skip: ∀(t:Nat) (ht:t<vs.length) s c,Inv t s c→¬Fv s.L vs[t].1 c→Inv (t+1) s c
 put: ∀(t:Nat) (ht:t<vs.length) s c r,Inv t s c→Gv kk s.L→Fv s.L vs[t].1 c→Kp kk s r→r.2.2=0→TuJ (PutA vs[t].1 [] vs[t].2) r.1.L c r.2.1→((ndI s.L c).kids= []→(∃x,(vs[t].1,x)∈(ndI s.L c).ps)→TuR (PutA vs[t].1 [] vs[t].2) nn kk s c [] r)→Inv (t+1) r.1 r.2.1
 bad: ∀(t:Nat) (ht:t<vs.length) s c r,Inv t s c→Gv kk s.L→Fv s.L vs[t].1 c→r.2.2≠0→((ndI s.L c).kids= []→(∃x,(vs[t].1,x)∈(ndI s.L c).ps)→TuR (PutA vs[t].1 [] vs[t].2) nn kk s c [] r)→Er
def InP (nn kk:Int)(vs:List (Int × Int))(Inv:Nat→St→Int→Prop)(Er:Prop)(w w':World)(e:Ending)(pa pm:Nat)(s:St)(F:Nat→Prop):Prop:=
 ∃r,AO2 w w' e pa pm nn kk F r∧Kp kk s r∧(r.2.2=0→Inv vs.length r.1 r.2.1)∧(r.2.2≠0→r.1.er≠0∧Er)
theorem csum_nil_std {us:List (Int × Int)}(h:Std us)(hc: ∀u,csum us u=csum [] u):us= []:=std_unique h std_nil hc
theorem bsI_n {w:World}{a:Option Addr}{c:Nat}{l:List Int}{x:Int}(hI:IL w a l.length l)(hs:l.Pairwise (· < ·))(hm:l.length≤4294967296): ∃ix:Int,Calls Tryz.prog 48 #[.slice a l.length c,.int .i64 x] w fun e w'=>e= .returned (.tuple #[.int .i64 ix,.bool (decide (x∈l))])∧Below w.heap.size w w':=by
 rcases hI.2 with h0|⟨b,off,rfl,hbl,hc⟩
 ·have hl:l= []:=List.eq_nil_of_length_eq_zero h0
  subst hl
  refine⟨0,(Tryz.slices_BinarySearch_int_empty a c x w).mono ?_⟩
  rintro e w' ⟨rfl,rfl⟩
  exact⟨rfl,Below.refl _ _⟩
 refine⟨((l.countP (· <x):Nat):Int),(Tryz.slices_BinarySearch_int b off l.length c l x w (Nat.le_refl _) o_m (fun j hj=> ?_) (by rw[List.take_length];exact hs.imp fun h=>Int.le_of_lt h)).mono ?_⟩
 ·rw[(hc j hj).1,List.getD_eq_getElem?_getD,List.getElem?_eq_getElem hj]
  rfl
 rintro e w' ⟨rfl,q,rfl⟩
 rw[List.take_length,show l.contains x=decide (x∈l)by simp]
 exact⟨rfl,below_drewN _ _ _⟩
structure IS (w0 w wr:World) (pa pm:Nat) (nn kk:Int) (s s':St) (F F':Nat→Prop) (c:Int) (fa:Option Addr) (fl:List Int):Prop where
 e:EA w0 wr pa pm nn kk s' F'
 le: ∃t,s'.L=s.L++t
 er:s.er≠0→s'.er≠0
 f: ∀b,F' b→F b∨w.heap.size≤b
 k:ButF (fun b=>b=pm∨F b) w wr
 m: ∀u,u∈fl↔Fv s'.L u c
 s:fl.Pairwise (· < ·)
 n:fl.length≤4294967296
 i:IL wr fa fl.length fl
theorem IS.below {w0 w wr w':World}{pa pm:Nat}{nn kk:Int}{s s':St}{F F':Nat→Prop}{c:Int}{fa:Option Addr}{fl:List Int}(h:IS w0 w wr pa pm nn kk s s' F F' c fa fl)(k:Below wr.heap.size wr w'):IS w0 w w' pa pm nn kk s s' F F' c fa fl:=
 {h with e:=h.e.below k,k:=ButF.trans h.k (butF_below (F:=fun _=>False) k) fun _ _ h=>h.elim,i:=h.i.below k}
theorem inst_n {w0 w:World}{pa pm:Nat}{nn kk:Int}{s:St}{F:Nat→Prop}{id:Int}{va:Option Addr}{vn vc:Nat}{vs:List (Int × Int)}{B:Nat}{Inv:Nat→St→Int→Prop}{Er:Prop}(hSt:Stp kk nn vs Inv Er)(hE:EA w0 w pa pm nn kk s F)(hk8:kk≤8)(hi0:Inv 0 s id)(hV: ∀w',ButF (fun b=>b=pm∨F b) w w'→Pr w' va vn vs B)(hB:B≤1048590)(hvn:vn≤1048590):
  Calls Tryz.prog 12 #[.pointer (some ⟨pa,0,none⟩),.int .i64 id,.slice va vn vc] w fun e w'=>InP nn kk vs Inv Er w w' e pa pm s F:=by
 have hL:s.L.length≤2002:=by
  have h1:=hE.g.ln
  have h2:=hE.g.cn
  have h3:=hE.g.n2
  omega
 obtain⟨hp,ho⟩:=hSt.pl 0 s id hi0
 have hm:=hide (missing_n hE.g.ax hE.v hE.k0 hk8 hL ho)
 go_enter Tryz.func12,Tryz.ntmps12
 go_wp2_with fail
 refine hm.out.mono ?_
 rintro e w2 ⟨rfl,k2⟩
 clear hm
 have hE2:=hE.below k2
 have hfr:=hide (free_n hE2.g.ax hE.v hL ho hp)
 go_wp2_with fail
 refine hfr.out.mono ?_
 rintro e w3 ⟨fl,hfm,hfs,hfl,fa,fc,rfl,hfI,hfN,k3⟩
 clear hfr
 have k03:=grow_step k3 k2
 have hE3:=hE.below k03
 have hb3:ButF (fun b=>b=pm∨F b) w w3:=butF_below k03
 have hIS:Hid (IS w0 w w3 pa pm nn kk s s F F id fa fl):=hide ⟨hE3,⟨[],by simp⟩,fun h=>h,fun b hb=> .inl hb,hb3,hfm,hfs,hfl,hfI⟩
 have hi0':=hide hi0
 replace hV:=hide hV
 have hvl:=(hV.out w3 hb3).1
 clear hE2 hE3 hfm hfs hfl hfI hfN k2 k3 hb3 hi0 hp ho
 go_wp2_with fail
 go_loopw [1,9,27] (fun cv fv q wr=> ∃(t:Nat) (s':St) (F':Nat→Prop) (c:Int) (fa:Option Addr) (fl:List Int) (fc:Nat),t≤vn∧cv= .int .i64 c∧fv= .slice fa fl.length fc∧q= .int .i64 t∧Hid (Inv t s' c)∧Hid (IS w0 w wr pa pm nn kk s s' F F' c fa fl)) (fun _ _ q _=>vn-(intOf q).toNat)
 case atStart=>exact⟨0,s,F,id,fa,fl,fc,Nat.zero_le _,rfl,rfl,rfl,hi0',hIS⟩
 case round=>
  obtain⟨t,s',F',c,fa,fl,fc,ht,rfl,rfl,rfl,hInv,hS⟩:=hrel
  have hL':s'.L.length≤2002:=by
   have h1:=hS.out.e.g.ln
   have h2:=hS.out.e.g.cn
   have h3:=hS.out.e.g.n2
   omega
  obtain⟨hp,ho⟩:=hSt.pl t s' c hInv.out
  by_cases htn:t<vn
  ·have hVr:=hV.out _ hS.out.k
   rcases hVr.2 with h0|⟨vb,vo,rfl,hvb,hvc⟩
   ·omega
   obtain⟨sx,ax,lx,cx,p0,p1,p2,hzx,hlx,hIx⟩:=hvc t o_m
   have hps:=hSt.skip t o_m s' c hInv.out
   have hpp:=hSt.put t o_m s' c
   have hbad:=hSt.bad t o_m s' c
   generalize (vs[t]'o_m)=x at*
   obtain⟨xv,xn⟩:=x
   dsimp only at p0 p1 p2 hzx hIx hps hpp hbad
   have b4:=below_alloc wr (.cells #[.int .i64 xv,.bool sx,.slice ax lx cx] 40)
   have c4:=heap_alloc_new wr (.cells #[.int .i64 xv,.bool sx,.slice ax lx cx] 40)
   have hS4:=hide (hS.out.below b4)
   obtain⟨ix,hbs⟩:=bsI_n (c:=fc) (x:=xv) hS4.out.i hS4.out.s hS4.out.n
   replace hbs:=hide hbs
   replace hps:=hide hps
   replace hpp:=hide hpp
   replace hbad:=hide hbad
   have hzx4:=hzx.below b4
   have hnF: ¬F' wr.heap.size∧wr.heap.size≠pm:=⟨fun h=>by have:=hS.out.e.g.fl _ h;omega,by have:=hS.out.e.g.mb.lt;omega⟩
   clear hVr hvc hS b4
   go_wp2_with fail
   clear p0 p1 p2
   generalize wr.alloc (.cells #[.int .i64 xv,.bool sx,.slice ax lx cx] 40)=w4 at*
   refine hbs.out.mono ?_
   rintro e w5 ⟨rfl,k5⟩
   clear hbs
   have hS5:=hide (hS4.out.below k5)
   by_cases hin:xv∈fl
   rotate_left
   ·rw[decide_eq_false hin]
    have hInv2:=hide (hps.out fun hf=>hin ((hS5.out.m xv).2 hf))
    clear hpp hbad hps hS4 k5 hzx hzx4 c4 hInv hIS hi0' hin hp ho
    go_wp2_with fail
    exact⟨⟨t+1,s',F',c,fa,fl,fc,by omega,rfl,rfl,by go_num,hInv2,hS5⟩,by simp[intOf];omega⟩
   rw[decide_eq_true hin]
   have hfv:=hide ((hS5.out.m xv).1 hin)
   have c5:=(k5.block _ (lt_of_block c4)).trans c4
   have p0:=cell_of_row _ wr.heap.size 0 _ _ (0,0) c5
   have p1:=cell_of_row _ wr.heap.size 1 _ _ (0,0) c5
   have p2:=cell_of_row _ wr.heap.size 2 _ _ (0,0) c5
   have hF':=hS5.out.e.g.fl
   have hpm':=hS5.out.e.g.mb.lt
   have hrl:=hvl
   have hwF: ¬F' wr.heap.size∧wr.heap.size≠pm:=hnF
   have hSb:Hid (∀w',Below w5.heap.size w5 w'→w'.cell? ⟨wr.heap.size,0,none⟩=some (.int .i64 xv)∧w'.cell? ⟨wr.heap.size,1,none⟩=some (.bool sx)∧w'.cell? ⟨wr.heap.size,2,none⟩=some (.slice ax lx cx)):=hide fun w' k=>by
    have c6:=(k.block _ (lt_of_block c5)).trans c5
    exact⟨cell_of_row _ wr.heap.size 0 _ _ (0,0) c6,cell_of_row _ wr.heap.size 1 _ _ (0,0) c6,cell_of_row _ wr.heap.size 2 _ _ (0,0) c6⟩
   have hSp:Hid (∀w' w'',Below w5.heap.size w5 w'→ButF (fun b=>b=pm∨F' b) w' w''→w''.cell? ⟨wr.heap.size,0,none⟩=some (.int .i64 xv)∧w''.cell? ⟨wr.heap.size,1,none⟩=some (.bool sx)∧w''.cell? ⟨wr.heap.size,2,none⟩=some (.slice ax lx cx)):=hide fun w' w'' k kb=>by
    have c6:=(k.block _ (lt_of_block c5)).trans c5
    have c7:=(kb.block _ (lt_of_block c6) fun h=>h.elim hwF.2 hwF.1).trans c6
    exact⟨cell_of_row _ wr.heap.size 0 _ _ (0,0) c7,cell_of_row _ wr.heap.size 1 _ _ (0,0) c7,cell_of_row _ wr.heap.size 2 _ _ (0,0) c7⟩
   have hcc:Hid (∀w',Below w5.heap.size w5 w'→Calls Tryz.prog 21 #[.agg #[.bool sx,.slice ax lx cx]] w' fun e w6=> ∃s6 a6 l6 c6,e= .returned (.agg #[.slice none 0 0,.bool s6,.slice a6 l6 c6])∧Zn w6 s6 a6 l6 c6 xn∧l6≤B+1∧Below w'.heap.size w' w6):=hide fun w' k=>Calls.mono (tconst_n (B:=B+1) ((hzx4.below k5).below k) o_m o_m) fun e w6 ⟨s6,a6,l6,c6,he,hTN⟩=>⟨s6,a6,l6,c6,he,(by obtain⟨w1,_,_,_,h5,_⟩:=hTN;exact h5.1),(by obtain⟨w1,_,_,_,_,h6⟩:=hTN;exact h6),hTN.below⟩
   have hput:Hid (∀w' s6 a6 l6 c6,Below w5.heap.size w5 w'→Zn w' s6 a6 l6 c6 xn→l6≤B+1→Calls Tryz.prog 11 #[.pointer (some ⟨pa,0,none⟩),.int .i64 c,.int .i64 xv,.agg #[.slice none 0 0,.bool s6,.slice a6 l6 c6]] w' fun e w7=> ∃r:St × Int × Int,e= .returned (.tuple #[.int .i64 r.2.1,.int .i64 r.2.2])∧Hid (∃F7,EA w0 w7 pa pm nn kk r.1 F7∧(∀b,F7 b→F' b∨w.heap.size≤b))∧Hid (ButF (fun b=>b=pm∨F' b) w' w7)∧Hid (Kp kk s' r)∧Hid (r.2.2=0→Inv (t+1) r.1 r.2.1)∧Hid (r.2.2≠0→r.1.er≠0∧Er)):=hide fun w' s6 a6 l6 c6 k hz6 hl6=>by
    have hE6:=hS5.out.e.below k
    refine Calls.mono (put12_n (B:=B+1) (cpu:=0) (us0:=[]) hE6 hk8 ho hp hIx ⟨rfl,.inl rfl⟩ hz6.zm hl6 o_m fun i hi=>hE6.v.parts hi) fun e w7 ⟨us,r,h1,h2,h3,h4,h5,h6,h7⟩=> ?_
    obtain rfl:=csum_nil_std h1 h2
    obtain⟨F7,h8,h9⟩:=hE6.next h3 h4.gv
    obtain⟨he,_,_,_,hbb⟩:=h3
    exact⟨r,he,hide ⟨F7,h8,fun b hb=>(h9 b hb).imp (fun h=>h) fun h=>by have:=hS5.out.k.size;have:=k.size;omega⟩,hide hbb,hide h4,hide fun he=>hpp.out r hInv.out hS5.out.e.v hfv.out h4 he (h5 he) h7,hide fun he=>⟨h6 he,hbad.out r hInv.out hS5.out.e.v hfv.out he h7⟩⟩
   clear hpp hbad hps hS4 hzx hzx4 c4 c5 hIS hi0' hin p0 p1 p2 hF' hpm' k5
   go_wp2_with fail
   go_region_held3 (fun w'=>w'.cell? ⟨wr.heap.size,0,none⟩=some (.int .i64 xv)∧w'.cell? ⟨wr.heap.size,1,none⟩=some (.bool sx)∧w'.cell? ⟨wr.heap.size,2,none⟩=some (.slice ax lx cx))
    (first|(refine hSb.out _ ?_;focus ((with_reducible repeat' first|exact Below.refl _ _|assumption|refine grow_step (by assumption) ?_|refine grow_drew ?_|refine grow_alloc ?_ _|refine grow_drewN ?_ _);done))|(with_reducible assumption))
    (first|(go_at_call 21;refine Calls.mono (hcc.out _ gw) ?_;rintro e w6 ⟨s6,a6,l6,c6,rfl,hz6,hl6,k6⟩)|(go_at_call 11;refine Calls.mono (hput.out _ s6 a6 l6 c6 gw (hz6.below gw) hl6) ?_;rintro e w7 ⟨⟨q7,o7,e7⟩,rfl,hF7,hb7,hk7,hi7,he7⟩;have hH7:=hSp.out _ w7 gw hb7.out))
   have k56:Below w5.heap.size w5 w6:=gw
   obtain⟨F7,hE7,hf7⟩:=hF7.out
   have hk7w:Hid (ButF (fun b=>b=pm∨F b) w w7):=hide (ButF.trans (ButF.trans hS5.out.k (butF_below (F:=fun _=>False) k56) fun _ _ h=>h.elim) hb7.out fun b hb hg=>hg.imp (fun h=>h) fun h=>(hS5.out.f b h).resolve_right o_m)
   have hf7w: ∀b,F7 b→F b∨w.heap.size≤b:=fun b hb=>(hf7 b hb).elim (hS5.out.f b) .inr
   have hle7: ∃tl,q7.L=s.L++tl:=by
    obtain⟨t1,e1⟩:=hS5.out.le
    obtain⟨t2,e2⟩:=hk7.out.le
    exact⟨t1++t2,by dsimp only at e2;rw[e2,e1,List.append_assoc]⟩
   have her7:Hid (s.er≠0→q7.er≠0):=hide fun h=>hk7.out.er (hS5.out.er h)
   have hg7:=hk7.out.gv
   dsimp only at hg7
   by_cases he:e7=0
   ·subst he
    have hInv7:=hi7.out rfl
    obtain⟨hp7,ho7⟩:=hSt.pl (t+1) q7 o7 hInv7
    have hL7:q7.L.length≤2002:=by
     have h1:=hE7.g.ln
     have h2:=hE7.g.cn
     have h3:=hE7.g.n2
     omega
    have hfr:=hide (free_n hE7.g.ax hg7 hL7 ho7 hp7)
    have hnx:Hid (∀e w',FrP w7 w' e q7.L o7→∃fa fl fc,e= .returned (.slice fa fl.length fc)∧Hid (IS w0 w w' pa pm nn kk s q7 F F7 o7 fa fl)):=hide fun e w' ⟨fl,h1,h2,h3,fa,fc,he,h4,_,h5⟩=>⟨fa,fl,fc,he,hide ⟨hE7.below h5,hle7,her7.out,hf7w,ButF.trans hk7w.out (butF_below (F:=fun _=>False) h5) fun _ _ h=>h.elim,h1,h2,h3,h4⟩⟩
    replace hInv7:=hide hInv7
    clear hSb hSp hcc hput hF7 hb7 hk7 hi7 he7 hH7 hS5 hE7 k56 k6 hz6 hInv hfv hp7 ho7
    go_wp2_with fail
    refine hfr.out.mono ?_
    rintro e w8 h8
    obtain⟨fa8,fl8,fc8,rfl,hS8⟩:=hnx.out e w8 h8
    clear hfr hnx h8
    go_wp2_with fail
    exact⟨⟨t+1,q7,F7,o7,fa8,fl8,fc8,by omega,rfl,rfl,by go_num,hInv7,hS8⟩,by simp[intOf];omega⟩
   have ne7:(e7 !=0)=true:=bne_iff_ne.2 he
   have hfin:Hid (InP nn kk vs Inv Er w w7 (.returned (.tuple #[.int .i64 0,.int .i64 e7])) pa pm s F):=hide ⟨(q7,0,e7),⟨rfl,F7,hE7.g,hf7w,hk7w.out⟩,⟨hle7,hg7,fun h=>absurd h he,her7.out⟩,fun h=>absurd h he,fun _=>he7.out he⟩
   clear hSb hSp hcc hput hF7 hb7 hk7 hi7 he7 hH7 hS5 hE7 k56 k6 hz6 hInv hfv
   go_wp2_with fail
   first|refine bodyPost_ret (results_tmp2 rfl _ _ _) rfl ?_|(rw[Exit.noGoto_ret];refine bodyPost_ret (results_tmp2 rfl _ _ _) rfl ?_)
   exact hfin.out
  obtain rfl:t=vn:=by omega
  have hfin:Hid (InP nn kk vs Inv Er w wr (.returned (.tuple #[.int .i64 c,.int .i64 0])) pa pm s F):=hide ⟨(s',c,0),⟨rfl,F',hS.out.e.g,hS.out.f,hS.out.k⟩,⟨hS.out.le,hS.out.e.v,fun _=>ho,hS.out.er⟩,fun _=>by rw[hvl];exact hInv.out,fun h=>absurd rfl h⟩
  clear hS hInv hV hIS hi0' hSt
  go_wp2_with fail
  refine bodyPost_ret (results_tmp2 rfl _ _ _) rfl ?_
  exact hfin.out
end Sb
end Nt
end Go.Proofs.YtbgpddlcfiiiaaaGreatDoor

namespace Go.Proofs.YtbgpddlcfiiiaaaGreatDoor
open Tm At
namespace Nt
namespace Sb

variable {kk n:Int}{L:List Nd}{vs:List (Int × Int)}
def ovr :List (Int × Int)→(Int→Int)→Int→Int
 | [],f,u=>f u
 |p::ps,f,u=>if u=p.1 then p.2 else ovr ps f u
theorem ovr_snoc (f:Int→Int)(p:Int × Int): ∀(l:List (Int × Int)) (u:Int),ovr (l++ [p]) f u=ovr l (fun u=>if u=p.1 then p.2 else f u) u
 | [],_=>rfl
 |q::l,u=>by
  show(if u=q.1 then q.2 else ovr (l++ [p]) f u)=if u=q.1 then q.2 else ovr l _ u
  rw[ovr_snoc f p l u]
theorem ovr_fv (f:Int→Int): ∀(l:List (Int × Int)) (u:Int),ovr l f u=(fv l u).getD (f u)
 | [],_=>rfl
 |q::l,u=>by
  show(if u=q.1 then q.2 else ovr l f u)=(if q.1=u then some q.2 else fv l u).getD (f u)
  rw[ovr_fv f l u]
  by_cases h:u=q.1
  ·rw[if_pos h,if_pos h.symm]
   rfl
  rw[if_neg h,if_neg fun e=>h e.symm]
theorem fv_none {u:Int}: ∀{l:List (Int × Int)},(∀p∈l,p.1≠u)→fv l u=none
 | [],_=>rfl
 |q::l,h=>by
  show(if q.1=u then some q.2 else fv l u)=none
  rw[if_neg (h q List.mem_cons_self),fv_none fun p hp=>h p (List.mem_cons_of_mem _ hp)]
theorem ev_fv {f g:Int→Int}: ∀{ps:List (Int × Int)},(∀p∈ps,f p.1=g p.1)→ev ps f=ev ps g
 | [],_=>rfl
 |p::ps,h=>by
  have h1:=ev_fv fun q hq=>h q (List.mem_cons_of_mem _ hq)
  simp only[ev]
  rw[h p List.mem_cons_self,h1]
theorem sat_fv {a:Atm}{f g:Int→Int}(h: ∀p∈a.ps,f p.1=g p.1):Sat a f↔Sat a g:=by
 unfold Sat
 rw[ev_fv h]
theorem tv_fv (hg:Gv kk L){i:Int}(ho:okI L i)(hp:Pln L i){f g:Int→Int}(h: ∀u,Fv L u i→f u=g u):tv L f i↔tv L g i:=
 tv_same hg.wk f g (i.toNat+1) i (by have:=ho.1;omega) ho hp fun y hy _ _=>sat_fv fun p hm=>h p.1 ((fv_pln hp).2 ⟨y,hy,p.2,hm⟩)
structure InvI (s0:St) (n:Int) (vs:List (Int × Int)) (t:Nat) (s:St) (c:Int):Prop where
 ok:okI s.L c
 pl:Pln s.L c
 co:Nt.co s.L c≤Nt.co s0.L n
 tv: ∀f,Nt.tv s.L f c↔Nt.tv s0.L (ovr (vs.take t) f) n
 fv: ∀u,Fv s.L u c→Fv s0.L u n∧∀p∈vs.take t,p.1≠u
 gv: ∃kk,Gv kk s.L
theorem invI_0 {s:St}(hg:Gv kk s.L)(ho:okI s.L n)(hp:Pln s.L n):InvI s n vs 0 s n:=
 ⟨ho,hp,Nat.le_refl _,fun _=>Iff.rfl,fun _ h=>⟨h,fun p hp=>absurd hp (by simp)⟩,kk,hg⟩
theorem take_more {t:Nat}(ht:t<vs.length):vs.take (t+1)=vs.take t++ [vs[t]]:=List.take_succ_eq_append_getElem ht
theorem stp_i {nn:Int}{s0:St}:Stp kk nn vs (InvI s0 n vs) True where
 pl:=fun _ _ _ h=>⟨h.pl,h.ok⟩
 skip:=fun t ht s c h hn=>by
  obtain⟨k2,hg⟩:=h.gv
  refine⟨h.ok,h.pl,h.co,fun f=> ?_,fun u hu=>⟨(h.fv u hu).1,fun p hp=> ?_⟩,h.gv⟩
  ·rw[take_more ht,show ovr (vs.take t++ [vs[t]]) f=ovr (vs.take t) _ from funext (ovr_snoc f vs[t] (vs.take t)),←h.tv]
   refine tv_fv hg h.ok h.pl fun u hu=> ?_
   rw[if_neg fun e=>hn (by rw[←e];exact hu)]
  rw[take_more ht]at hp
  rcases List.mem_append.1 hp with hp|hp
  ·exact(h.fv u hu).2 p hp
  obtain rfl:=List.mem_singleton.1 hp
  exact fun e=>hn (by rw[e];exact hu)
 put:=fun t ht s c r h hg _ hk he hT _=>by
  have hpc:=(pln_le hg.wk hk.le h.ok).2 h.pl
  refine⟨hk.ok he,hT.pl hpc,?_,fun f=> ?_,fun u hu=> ?_,kk,hk.gv⟩
  ·have h1:=hT.co
   rw[co_le hg.wk hk.gv.wk hk.le h.ok]at h1
   exact Nat.le_trans h1 h.co
  ·rw[hT.tv hpc f (fun u=>if u=vs[t].1 then vs[t].2+ev [] f else f u) fun y _ _ a' ha=>putA_sat ha f,tv_le hg.wk hk.gv.wk hk.le h.ok,h.tv,take_more ht,show ovr (vs.take t++ [vs[t]]) f=ovr (vs.take t) _ from funext (ovr_snoc f vs[t] (vs.take t))]
   simp only[ev,Int.add_zero]
  obtain⟨y,hy,_,a',ha,c',hc⟩:=hT.fv u hu
  rcases putA_vars ha hc with⟨hc2,hne⟩|⟨_,hc2⟩
  ·have h2:=h.fv u ((fv_le hg.wk hk.le h.ok).1 ⟨y,hy,hc2⟩)
   refine⟨h2.1,fun p hp=> ?_⟩
   rw[take_more ht]at hp
   rcases List.mem_append.1 hp with hp|hp
   ·exact h2.2 p hp
   obtain rfl:=List.mem_singleton.1 hp
   exact fun e=>hne e.symm
  exact absurd hc2 List.not_mem_nil
 bad:=fun _ _ _ _ _ _ _ _ _ _=>trivial
theorem fin_fv {i u:Int}(hg:Gv kk L)(ho:okI L i)(h:Fin9 L vs i)(hu:Fv L u i):fv vs u≠none:=by
 obtain⟨y,hy,c,hc⟩:=(fv_pln (fin_pln h)).1 hu
 have h1:=h y hy
 have hoy:=dn_ok hg.wk ho hy
 have hk:=hg.kinds hoy
 by_cases hk5:(ndI L y).kind<5
 ·refine h1.2.2 hk5 u ?_
  have hs:=(hg.atm hoy hk5).1.std
  have e:csum (ndI L y).ps u=c:=std_csum_mem hs hc
  rw[e]
  exact hs.2 _ hc
 rcases hg.cases hoy with⟨_,e⟩|⟨_,e⟩|⟨_,f,_,hf,_,e,_⟩|⟨_,kd,kids,hk,e,h2,_⟩|⟨_,kd,v,x,hk,e,_⟩
 ·rw[e]at hc;exact absurd hc List.not_mem_nil
 ·rw[e]at hc;exact absurd hc List.not_mem_nil
 ·rw[e]at hk5;dsimp only at hk5;omega
 ·rw[e]at hc;exact absurd hc List.not_mem_nil
 rw[e]at hc;exact absurd hc List.not_mem_nil
theorem fin_of {i:Int}(hp:Pln L i)(h: ∀u,Fv L u i→fv vs u≠none):Fin9 L vs i:=fun y hy=>
 ⟨(hp y hy).1,(hp y hy).2,fun _ u hu=>by
  obtain⟨p,hm,e⟩:=csum_mem hu
  exact h u ((fv_pln hp).2 ⟨y,hy,p.2,by rw[←e];exact hm⟩)⟩
theorem inst_end {s0 s:St}{c:Int}(hg:Gv kk s0.L)(ho:okI s0.L n)(hf:Fin9 s0.L vs n)(h:InvI s0 n vs vs.length s c):Fin9 s.L [] c∧(tv s.L (val1 []) c↔tv s0.L (val1 vs) n):=by
 have ht:=h.tv (val1 [])
 have hv:=h.fv
 rw[List.take_length]at ht hv
 refine⟨fin_of h.pl fun u hu=>absurd (fv_none (hv u hu).2) (fin_fv hg ho hf (hv u hu).1),ht.trans ?_⟩
 rw[show ovr vs (val1 [])=val1 vs from funext fun u=>by rw[ovr_fv];rfl]
theorem put_end {x v uk m:Int}{us us0:List (Int × Int)}(hg:Gv kk L)(ho:okI L n)(hS:Std us)(hc: ∀u,csum us u=csum us0 u)(hT:Tot us0 vs)(hm:m=uk+ev us0 (val1 vs))(hf:Fin9 L ((v,m)::vs) n)(h:TuJ (PutA v us uk) L n x):Fin9 L vs x∧(tv L (val1 vs) x↔tv L (val1 ((v,m)::vs)) n):=by
 have hp:=fin_pln hf
 refine⟨fin_of (h.pl hp) fun u hu=> ?_,?_⟩
 ·obtain⟨y,hy,_,a',ha,c',hc'⟩:=h.fv u hu
  rcases putA_vars ha hc' with⟨hc2,hne⟩|⟨c2,hc2⟩
  ·have h1:=fin_fv hg ho hf ⟨y,hy,hc2⟩
   rw[show fv ((v,m)::vs) u=fv vs u from if_neg fun e=>hne e.symm]at h1
   exact h1
  refine hT u ?_
  have e:csum us u=c2:=std_csum_mem hS hc2
  rw[←hc u,e]
  exact hS.2 _ hc2
 refine h.tv hp (val1 vs) (val1 ((v,m)::vs)) fun y _ _ a' ha=> ?_
 rw[putA_sat ha (val1 vs)]
 refine sat_fv fun p _=> ?_
 show(if p.1=v then uk+ev us (val1 vs)else val1 vs p.1)=(if v=p.1 then some m else fv vs p.1).getD 0
 by_cases e:p.1=v
 ·rw[if_pos e,if_pos e.symm,hm,ev_congr hc]
  rfl
 rw[if_neg e,if_neg fun e2=>e e2.symm]
 rfl
end Sb
end Nt
end Go.Proofs.YtbgpddlcfiiiaaaGreatDoor

namespace Go.Proofs.YtbgpddlcfiiiaaaGreatDoor
open Go.RowKit Go.Sort Go.Shelf
open Tm At
namespace Nt
namespace Sb

theorem ev_abs {X Y:Nat}{f:Int→Int}: ∀{ps:List (Int × Int)},(∀p∈ps,p.2.natAbs≤X∧(f p.1).natAbs≤Y)→(ev ps f).natAbs≤ps.length*(X*Y)
 | [],_=>by simp[ev]
 |p::ps,h=>by
  have h1:=ev_abs fun q hq=>h q (List.mem_cons_of_mem _ hq)
  obtain⟨h2,h3⟩:=h p List.mem_cons_self
  have h4:(p.2*f p.1).natAbs≤X*Y:=by
   rw[Int.natAbs_mul]
   exact Nat.mul_le_mul h2 h3
  have h5:(ev (p::ps) f).natAbs≤(p.2*f p.1).natAbs+(ev ps f).natAbs:=by
   simp only[ev]
   exact Int.natAbs_add_le _ _
  rw[List.length_cons,Nat.add_mul,Nat.one_mul]
  omega
theorem lim_ev {ps vs:List (Int × Int)}{k:Int}{BT BV:Nat}(hk:lim k≤BT)(hp: ∀p∈ps,lim p.2≤BT)(hv: ∀p∈vs,lim p.2≤BV)(hn:ps.length<4294967295):lim (k+ev ps (val1 vs))≤BT+BV+1:=by
 rw[lim_lt]at hk ⊢
 have hx: ∀u,(val1 vs u).natAbs≤4294967296^BV:=fun u=>by
  unfold val1
  cases e:fv vs u with
  |none=>simp
  |some z=>
   obtain⟨p,hp,rfl⟩: ∃p∈vs,p.2=z:=by
    clear hv
    induction vs with
    |nil=>cases e
    |cons q vs ih=>
     simp only[fv]at e
     split at e
     ·cases e
      exact⟨q,List.mem_cons_self,rfl⟩
     obtain⟨p,h1,h2⟩:=ih e
     exact⟨p,List.mem_cons_of_mem _ h1,h2⟩
   exact Nat.le_of_lt (lim_lt.1 (hv p hp))
 have h1:=ev_abs (X:=4294967296^BT) (Y:=4294967296^BV) (f:=val1 vs) fun p h=>⟨Nat.le_of_lt (lim_lt.1 (hp p h)),hx p.1⟩
 have h2:=Int.natAbs_add_le k (ev ps (val1 vs))
 rw[←Nat.pow_add]at h1
 have h3:4294967296^BT≤4294967296^(BT+BV):=Nat.pow_le_pow_right (by decide) (Nat.le_add_right _ _)
 have h4:0<4294967296^(BT+BV):=Nat.pow_pos (by decide)
 rw[Nat.pow_succ]
 have h5:(ps.length+1)*4294967296^(BT+BV)<4294967296*4294967296^(BT+BV):=Nat.mul_lt_mul_of_pos_right o_m o_m
 rw[Nat.add_mul,Nat.one_mul]at h5
 rw[Nat.mul_comm (4294967296^(BT+BV))]
 omega
theorem pw_nat : ∀n:Nat,pw n=((4294967296^n:Nat):Int)
 |0=>rfl
 |n+1=>by
  have h:=pw_nat n
  rw[Nat.pow_succ]
  simp only[pw]
  rw[h]
  generalize 4294967296^n=P at*
  omega
theorem val_pow {xs:List Int}(h:Limbs xs):(val xs).toNat<4294967296^xs.length:=by
 have h1:=vl_bd h xs.length
 rw[pw_nat]at h1
 unfold val
 generalize 4294967296^xs.length=P at*
 omega
theorem zm_lim {w:World}{s:Bool}{a:Option Addr}{l c:Nat}{z:Int}(h:Zm w s a l c z):lim z≤l:=by
 obtain⟨n,⟨xs,hr,hv⟩,hz⟩:=h
 have h1:=val_pow hr.2.2.2.1
 have h0:0≤n:=by rw[←hv];exact val_nonneg hr.2.2.2.1
 rw[lim_lt,←hr.1]
 have hn:z.natAbs=(val xs).toNat:=by cases s <;> simp[sg]at hz <;> omega
 rw[hn]
 exact h1
theorem pr_lims {w:World}{ad:Option Addr}{n:Nat}{ps:List (Int × Int)}{B:Nat}(h:Pr w ad n ps B): ∀p∈ps,lim p.2≤B:=fun p hp=>by
 obtain⟨i,hi,rfl⟩:=List.getElem_of_mem hp
 rcases h.2 with h0|⟨b,off,_,_,hc⟩
 ·have:=h.1
  omega
 obtain⟨s,a,l,c,_,_,_,g4,g5,_⟩:=hc i hi
 exact Nat.le_trans (zm_lim g4) g5
end Sb
end Nt

theorem eval_f {F0:Nat}{w:World}{ad:Option Addr}{n cp:Nat}{s:Bool}{a:Option Addr}{l c:Nat}{ps:List (Int × Int)}{k:Int}{ad2:Option Addr}{n2 cp2:Nat}{vs:List (Int × Int)}{B:Nat}(hF0:F0≤w.heap.size)(hP:Pr w ad n ps B)(hz:Zm w s a l c k)(hl:l≤B)(hV:Pr w ad2 n2 vs B)(hB:B+n+n2≤268435456):
  Calls Tryz.prog 9 #[.agg #[.slice ad n cp,.bool s,.slice a l c],.slice ad2 n2 cp2] w fun e w'=> ∃s' a' l' c' er,e= .returned (.tuple #[.agg #[.bool s',.slice a' l' c'],.int .i64 er])∧Below w.heap.size w w'∧((¬Tot ps vs∧er=170∧s'=false∧a'=none∧l'=0∧c'=0)∨(Tot ps vs∧er=0∧Zn w' s' a' l' c' (k+ev ps (val1 vs))∧l'≤2*B+2*n+1∧Nt.InF (fun b=>F0≤b) a' l')):=
 eval_b hF0 hP hz hl hV hB
end Go.Proofs.YtbgpddlcfiiiaaaGreatDoor
