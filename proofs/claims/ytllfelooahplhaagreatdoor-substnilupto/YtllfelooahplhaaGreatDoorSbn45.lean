/-
 Several texts in one: UJ,UK,LSubstNil.
-/
import Derived.Test.YtllfelooahplhaaGreatDoorSbn44
import Derived.Test.YtllfelooahplhaaGreatDoorSbn43
import Derived.Test.YtllfelooahplhaaGreatDoorSbn41
import Derived.Test.YtllfelooahplhaaGreatDoorSbn22
set_option maxRecDepth 100000
set_option maxHeartbeats 3200000
namespace Go.Proofs.YtllfelooahplhaaGreatDoor
open Tm At
namespace Nt
namespace Sb

def ny1 :Nd:=⟨2,0,[(0,1),(1,-1)],0,0,[]⟩
def ny2 :Nd:=⟨2,0,[(0,1)],-3,0,[]⟩
def sy1 :St:=⟨[cst 0,cst 1,ny1],1,0⟩
def sy2 :St:=⟨[cst 0,cst 1,ny1,ny2],2,0⟩
theorem std_y1 :Std [((0:Int),(1:Int)),(1,-1)]:=⟨by simp,by simp⟩
theorem std_y2 :Std [((0:Int),(1:Int))]:=⟨by simp,by simp⟩
theorem std_y3 :Std [((1:Int),(1:Int))]:=⟨by simp,by simp⟩
theorem form_y1 :formA 2 0 (nz (lays [] [(0,1),(1,-1)])) 0= .inl ⟨2,0,[(0,1),(1,-1)],0⟩:=by rfl
theorem form_y2 :formA 2 0 [(0,1)] (-3)= .inl ⟨2,0,[(0,1)],-3⟩:=by rfl
theorem lim_3 :lim (-3)≤8:=lim_lt.2 (by decide)
theorem act_y1 :actA 2000 8 st0 2 0 [(0,1),(1,-1)] 0=(sy1,2,0):=by
 unfold actA
 rw[form_y1]
 show putE 2000 8 st0 ny1=_
 rw[putE_made (not_in (by simp[st0,cst,ny1])) rfl (by simp[nums,ny1,lim_0,lim_1,lim_m1]) (by decide)]
 rfl
theorem put_y2 :putE 2000 8 sy1 ny2=(sy2,3,0):=by
 rw[putE_made (not_in2 (by simp[sy1,cst,ny1,ny2])) rfl (by
  have:=lim_3
  simp[nums,ny2,lim_0,lim_1]
  omega) (by decide)]
 rfl
theorem fit_y1 :Fit ⟨2,0,[(0,1),(1,-1)],0⟩:=form_fit (ps:=[(0,1),(1,-1)]) form_y1
theorem fit_y2 :Fit ⟨2,0,[(0,1)],-3⟩:=formA_fit std_y2 form_y2
theorem gv_sy1 :Gv 8 sy1.L:=by
 have h:=(kp_put (nn:=2000) (kk:=8) (s:=st0) (n:=ny1) (gv_st0 8) (.inl ⟨_,fit_y1,rfl,by simp⟩)).gv
 rw[putE_made (not_in (by simp[st0,cst,ny1])) rfl (by simp[nums,ny1,lim_0,lim_1,lim_m1]) (by decide)]at h
 exact h
theorem gv_sy2 :Gv 8 sy2.L:=by
 have h:=(kp_put (nn:=2000) (kk:=8) (s:=sy1) (n:=ny2) gv_sy1 (.inl ⟨_,fit_y2,rfl,by simp⟩)).gv
 rw[put_y2]at h
 exact h
theorem ok_y12 :okI sy1.L 2:=⟨by decide,by decide⟩
theorem ok_y22 :okI sy2.L 2:=⟨by decide,by decide⟩
theorem ok_y23 :okI sy2.L 3:=⟨by decide,by decide⟩
theorem ok_y20 :okI sy2.L 0:=⟨by decide,by decide⟩
theorem pln_y12 :Pln sy1.L 2:=(her_iff ok_y12).2 ⟨⟨by decide,by decide⟩,fun _ hz=>absurd hz List.not_mem_nil⟩
theorem pln_y22 :Pln sy2.L 2:=(her_iff ok_y22).2 ⟨⟨by decide,by decide⟩,fun _ hz=>absurd hz List.not_mem_nil⟩
theorem pln_y23 :Pln sy2.L 3:=(her_iff ok_y23).2 ⟨⟨by decide,by decide⟩,fun _ hz=>absurd hz List.not_mem_nil⟩
theorem pln_y20 :Pln sy2.L 0:=(her_iff ok_y20).2 ⟨⟨by decide,by decide⟩,fun _ hz=>absurd hz List.not_mem_nil⟩
theorem tur_atom {T:Atm→Atm→Prop}{nn kk:Int}{s:St}{i:Int}{r:St × Int × Int}(h:TuR T nn kk s i [] r)(hk:(ndI s.L i).kind=2): ∃a',T (atmN (ndI s.L i)) a'∧r=putE nn kk s (ndA a'):=by
 rcases h with⟨h,_⟩|⟨h,_⟩|⟨h|h,_⟩|⟨_,a',h1,_,h2⟩
 ·rw[hk]at h;cases h
 ·rw[hk]at h;cases h
 ·rw[hk]at h;cases h
 ·rw[hk]at h;cases h
 exact⟨a',h1,h2⟩
theorem tur_put {us:List (Int × Int)}{uk:Int}{r:St × Int × Int}(hu:us= [(1,1)])(hk:uk=1)(h:TuR (PutA 0 us uk) 2000 8 sy1 2 [] r):r=(sy1,1,0):=by
 subst hu hk
 obtain⟨a',⟨rs,h1,h2,h3⟩,rfl⟩:=tur_atom h rfl
 have e:rs= []:=std_unique h1 std_nil fun u=>by
  rw[h2 u]
  show csum [(1,-1),(1,1*1)] u=0
  simp only[csum]
  split <;> omega
 subst e
 obtain rfl:(⟨1,0,[],0⟩:Atm)=a':=Sum.inl.inj h3
 exact putE_found (i:=1) gv_sy1.uq rfl
theorem tur_i1 {r:St × Int × Int}(h:TuR (PutA 1 [] 3) 2000 8 sy1 2 [] r):r=(sy2,3,0):=by
 obtain⟨a',⟨rs,h1,h2,h3⟩,rfl⟩:=tur_atom h rfl
 have e:rs= [(0,1)]:=std_unique h1 std_y2 fun u=>h2 u
 subst e
 obtain rfl:(⟨2,0,[(0,1)],-3⟩:Atm)=a':=Sum.inl.inj (form_y2.symm.trans h3)
 exact put_y2
theorem tur_i2 {r:St × Int × Int}(h:TuR (PutA 0 [] 3) 2000 8 sy2 3 [] r):r=(sy2,0,0):=by
 obtain⟨a',⟨rs,h1,h2,h3⟩,rfl⟩:=tur_atom h rfl
 have e:rs= []:=std_unique h1 std_nil fun u=>h2 u
 subst e
 obtain rfl:(⟨0,0,[],0⟩:Atm)=a':=Sum.inl.inj h3
 exact putE_found (i:=0) gv_sy2.uq rfl
theorem tur_id {r:St × Int × Int}(h:TuR IdA 2000 8 sy2 2 [] r):r=(sy2,2,0):=by
 obtain⟨a',⟨rfl,_⟩,rfl⟩:=tur_atom h rfl
 exact putE_found (i:=2) gv_sy2.uq rfl
def InvY (t:Nat)(s:St)(c:Int):Prop:=(t=0∧s=sy1∧c=2)∨(t=1∧s=sy2∧c=3)∨(t=2∧s=sy2∧c=0)
theorem stp_y :Stp 8 2000 [(1,3),(0,3)] InvY False where
 pl:=by
  rintro t s c (⟨_,rfl,rfl⟩|⟨_,rfl,rfl⟩|⟨_,rfl,rfl⟩)
  ·exact⟨pln_y12,ok_y12⟩
  ·exact⟨pln_y23,ok_y23⟩
  exact⟨pln_y20,ok_y20⟩
 skip:=by
  rintro t ht s c (⟨rfl,rfl,rfl⟩|⟨rfl,rfl,rfl⟩|⟨rfl,rfl,rfl⟩) hn
  ·exact absurd ((fv_iff ok_y12).2 (.inl ⟨-1,by simp[ndI,sy1,ny1]⟩)) hn
  ·exact absurd ((fv_iff ok_y23).2 (.inl ⟨1,by simp[ndI,sy2,ny2]⟩)) hn
  exact absurd ht (by simp)
 put:=by
  rintro t ht s c r (⟨rfl,rfl,rfl⟩|⟨rfl,rfl,rfl⟩|⟨rfl,rfl,rfl⟩) _ _ _ _ _ hT
  ·have h:=tur_i1 (hT rfl ⟨-1,by simp[ndI,sy1,ny1]⟩)
   subst h
   exact .inr (.inl ⟨rfl,rfl,rfl⟩)
  ·have h:=tur_i2 (hT rfl ⟨1,by simp[ndI,sy2,ny2]⟩)
   subst h
   exact .inr (.inr ⟨rfl,rfl,rfl⟩)
  exact absurd ht (by simp)
 bad:=by
  rintro t ht s c r (⟨rfl,rfl,rfl⟩|⟨rfl,rfl,rfl⟩|⟨rfl,rfl,rfl⟩) _ _ he hT
  ·have h:=tur_i1 (hT rfl ⟨-1,by simp[ndI,sy1,ny1]⟩)
   subst h
   exact he rfl
  ·have h:=tur_i2 (hT rfl ⟨1,by simp[ndI,sy2,ny2]⟩)
   subst h
   exact he rfl
  exact absurd ht (by simp)
theorem ps_y1 {i:Int}(h:okI sy1.L i):(ndI sy1.L i).ps.length≤2:=by
 have h1:=h.1
 have h2:=h.2
 have h3:(sy1.L.length:Int)=3:=rfl
 obtain rfl|rfl|rfl:i=0∨i=1∨i=2:=by omega
 ·decide
 ·decide
 decide
theorem ps_y2 {i:Int}(h:okI sy2.L i):(ndI sy2.L i).ps.length≤2:=by
 have h1:=h.1
 have h2:=h.2
 have h3:(sy2.L.length:Int)=4:=rfl
 obtain rfl|rfl|rfl|rfl:i=0∨i=1∨i=2∨i=3:=by omega
 ·decide
 ·decide
 ·decide
 decide
end Sb
end Nt
end Go.Proofs.YtllfelooahplhaaGreatDoor

namespace Go.Proofs.YtllfelooahplhaaGreatDoor
open Go.RowKit Go.Sort Go.Shelf
open Tm At
namespace Nt
namespace Sb

theorem zn_new {W w':World}{B0:Nat}{G:Nat→Prop}{s:Bool}{a:Option Addr}{l c:Nat}{z:Int}(hz:Fresh.Zn B0 W s a l c z)(hG: ∀b,G b→b<B0)(k:ButF G W w'):Zn w' s a l c z:=by
 refine zn_move hz.zn k.size fun b off e h0=>k.block b (zn_lt hz.zn e h0) fun hg=> ?_
 have h1:=hG b hg
 rcases hz.fr with⟨h2,_⟩|⟨b2,xs,h2,h3,_⟩
 ·rw[h2]at e
  cases e
 rw[h2]at e
 cases e
 omega
theorem zn_below {w w':World}{B0:Nat}{s:Bool}{a:Option Addr}{l c:Nat}{z:Int}(h:Fresh.Zn B0 w s a l c z)(k:Below w.heap.size w w'):Fresh.Zn B0 w' s a l c z:=by
 obtain⟨n,h1,h2⟩:=h
 exact⟨n,h1.below k,h2⟩
theorem pr_vals {W:World}{B0 p:Nat}{G:Nat→Prop}{v1 v2:Int}{s1 s2:Bool}{a1 a2:Option Addr}{l1 c1 l2 c2:Nat}{z1 z2:Int}(hrow:W.heap[p]? =some (.cells #[.int .i64 v1,.bool s1,.slice a1 l1 c1,.int .i64 v2,.bool s2,.slice a2 l2 c2] 51 (0,0)))(hp:B0≤p)(hz1:Fresh.Zn B0 W s1 a1 l1 c1 z1)(hl1:l1≤2)(hz2:Fresh.Zn B0 W s2 a2 l2 c2 z2)(hl2:l2≤2)(hv1:I64 v1)(hv2:I64 v2)(hG: ∀b,G b→b<B0)(w':World)(k:ButF G W w'):Pr w' (some ⟨p,0,none⟩) 2 [(v1,z1),(v2,z2)] 2:=by
 have hr:=(k.block p (lt_of_block hrow) fun hg=>by have:=hG p hg;omega).trans hrow
 refine⟨rfl,.inr ⟨p,0,rfl,lt_of_block hr,fun i hi=> ?_⟩⟩
 obtain rfl|rfl:i=0∨i=1:=by simp at hi;omega
 ·exact⟨s1,a1,l1,c1,cell_of_row w' p 0 _ _ (0,0) hr,cell_of_row w' p 1 _ _ (0,0) hr,cell_of_row w' p 2 _ _ (0,0) hr,(zn_new hz1 hG k).zm,hl1,hv1⟩
 exact⟨s2,a2,l2,c2,cell_of_row w' p 3 _ _ (0,0) hr,cell_of_row w' p 4 _ _ (0,0) hr,cell_of_row w' p 5 _ _ (0,0) hr,(zn_new hz2 hG k).zm,hl2,hv2⟩
theorem awake12_n {w:World}(htab:Tab w):Calls Tryz.prog 21 #[] w fun e w'=>e= .returned (.bool true)∧Below w.heap.size w w':=by
 replace htab:=hide htab
 go_enter Tryz.func21,Tryz.ntmps21
 go_wp2_with fail
 refine(new_ag htab.out).mono ?_
 rintro e w1 ⟨pa,pm,F,rfl,hG,hF,hpw,k1⟩
 have hE:Hid (EA w w1 pa pm 2000 8 st0 F):=hide ⟨hG,gv_st0 8,hF,hpw,k1,htab.out,by decide,by decide⟩
 clear hG hF hpw k1 htab
 go_wp2_with fail
 refine(tvar_n (v:=0) (B:=2) (by unfold I64;decide) o_m).mono ?_
 rintro e w2 ⟨ad2,cp2,rs2,rfl,hT2,hr2⟩
 obtain⟨hP2,hZ2,hl2⟩:=hT2.tw
 rw[hr2]at hP2
 replace hE:=hide (hE.out.below hT2.below)
 clear hT2 hr2
 go_wp2_with fail
 refine(tvar_n (v:=1) (B:=2) (by unfold I64;decide) o_m).mono ?_
 rintro e w3 ⟨ad3,cp3,rs3,rfl,hT3,hr3⟩
 obtain⟨hP3,hZ3,hl3⟩:=hT3.tw
 rw[hr3]at hP3
 replace hE:=hide (hE.out.below hT3.below)
 have hsub:=hide (tsub_n (cp:=cp2) (cp2:=cp3) (hP2.below hT3.below) (hZ2.below hT3.below) hl2 hP3 hZ3 hl3 o_m)
 clear hT3 hr3 hP2 hZ2 hl2 hP3 hZ3 hl3
 go_wp2_with fail
 refine hsub.out.mono ?_
 rintro e w4 ⟨ad4,n4,cp4,s4,a4,l4,c4,rs4,rfl,hT4,hn4,hS4,hc4⟩
 obtain⟨hP4,hZ4,hl4⟩:=hT4.tw
 replace hE:=hide (hE.out.below hT4.below)
 have he4:rs4.map Raw.p= [(0,1),(1,-1)]:=std_unique hS4 std_y1 fun v=>hc4 v
 rw[he4]at hP4
 rw[show((0:Int)-0)=0 from rfl]at hZ4
 have hcall:=hide (atom_ao2 (kd:=2) (cp:=cp4) hE.out.g (zn_zero _).zm o_m hP4 hZ4 hl4 o_m o_m hE.out.tab)
 clear hT4 hP4 hZ4 hl4 hS4 hc4 he4 hsub
 go_wp2_with fail
 refine hcall.out.mono ?_
 rintro e w5 ha
 obtain⟨rfl,F5,hE5⟩:=hE.out.step ha act_y1 gv_sy1
 clear ha hcall hE
 replace hE5:=hide hE5
 go_wp2_with fail
 refine(tvar_n (v:=1) (B:=2) (by unfold I64;decide) o_m).mono ?_
 rintro e w6 ⟨ad6,cp6,rs6,rfl,hT6,hr6⟩
 obtain⟨hP6,hZ6,hl6⟩:=hT6.tw
 rw[hr6]at hP6
 replace hE5:=hide (hE5.out.below hT6.below)
 clear hT6 hr6
 go_wp2_with fail
 refine(zof_n 1 (by decide) (by decide) _).mono ?_
 rintro e w7 ⟨s7,a7,l7,c7,rfl,hz7,k7,hl7⟩
 replace hE5:=hide (hE5.out.below k7)
 replace hP6:=hP6.below k7
 replace hZ6:=hZ6.below k7
 clear k7
 have hcn:=hide (tconst_n (B:=8) hz7.zm o_m o_m)
 go_wp2_with fail
 refine hcn.out.mono ?_
 rintro e w8 ⟨s8,a8,l8,c8,rfl,hT8⟩
 obtain⟨hP8,hZ8,hl8⟩:=hT8.tw
 replace hE5:=hide (hE5.out.below hT8.below)
 have hadd:=hide (tadd_n (cp:=cp6) (cp2:=0) ((hP6.below hT8.below).mono o_m) (hZ6.below hT8.below) o_m hP8 hZ8 hl8 o_m)
 clear hcn hT8 hz7 hl7 hP6 hZ6 hl6 hP8 hZ8 hl8
 go_wp2_with fail
 refine hadd.out.mono ?_
 rintro e w9 ⟨ad9,n9,cp9,s9,a9,l9,c9,rs9,rfl,hT9,hn9,hS9,hc9⟩
 obtain⟨hP9,hZ9,hl9⟩:=hT9.tw
 replace hE5:=hide (hE5.out.below hT9.below)
 have he9:rs9.map Raw.p= [(1,1)]:=std_unique hS9 std_y3 fun v=>hc9 v
 rw[he9]at hP9
 rw[show((0:Int)+1)=1 from rfl]at hZ9
 have hput:=hide (put12_n (cpu:=cp9) hE5.out o_m ok_y12 pln_y12 (v:=0) (by unfold I64;decide) hP9 hZ9 hl9 o_m fun i hi=>by have:=ps_y1 hi;omega)
 clear hT9 hP9 hZ9 hl9 hS9 hc9 he9 hadd
 go_wp2_with fail
 refine hput.out.mono ?_
 rintro e w10 ⟨us,r,hus,hcs,ha,-,-,-,hr⟩
 have hr2:=tur_put (std_unique hus std_y3 hcs) rfl (hr rfl ⟨1,by simp[ndI,sy1,ny1]⟩)
 obtain⟨rfl,F10,hE10⟩:=hE5.out.step ha hr2 gv_sy1
 clear ha hput hE5 hus hcs hr hr2
 replace hE10:=hide hE10
 go_wp2_with fail
 refine(Fresh.zof_n (B:=w10.heap.size) 3 (by decide) (by decide) _ (Nat.le_refl _)).mono ?_
 rintro e w11 ⟨s11,a11,l11,c11,rfl,hz11,k11,hl11⟩
 replace hz11:=hide hz11
 replace k11:=hide k11
 go_wp2_with fail
 refine(Fresh.zof_n (B:=w10.heap.size) 3 (by decide) (by decide) _ k11.out.size).mono ?_
 rintro e w12 ⟨s12,a12,l12,c12,rfl,hz12,k12,hl12⟩
 replace hz12:=hide hz12
 replace k12:=hide k12
 have b13:=below_alloc w12 (.cells #[.int .i64 1,.bool s11,.slice a11 l11 c11,.int .i64 0,.bool s12,.slice a12 l12 c12] 51)
 have hrow:=heap_alloc_new w12 (.cells #[.int .i64 1,.bool s11,.slice a11 l11 c11,.int .i64 0,.bool s12,.slice a12 l12 c12] 51)
 have hsz:w10.heap.size≤w12.heap.size:=Nat.le_trans k11.out.size k12.out.size
 have k13:=grow_step b13 (grow_step k12.out k11.out)
 have hfl: ∀b,(b=pm∨F10 b)→b<w10.heap.size:=fun b hb=>hb.elim (fun e=>by rw[e];exact hE10.out.g.mb.lt) fun h=>hE10.out.g.fl b h
 have hins:=hide (inst_n (id:=2) (vc:=2) (B:=2) stp_y (hE10.out.below k13) (by decide) (.inl ⟨rfl,rfl,rfl⟩) (pr_vals hrow hsz (zn_below (zn_below hz11.out k12.out) b13) hl11 (zn_below hz12.out b13) hl12 (by unfold I64;decide) (by unfold I64;decide) hfl) o_m o_m)
 replace hE10:=hide (hE10.out.below k13)
 clear hz11 hz12 k11 k12 k13 b13 hrow hsz hfl hl11 hl12
 go_wp2_with fail
 refine hins.out.mono ?_
 rintro e w14 ⟨r,ha,hkp,hi,her⟩
 have he0:r.2.2=0:=Decidable.byContradiction fun h=>(her h).2
 have hr2:r=(sy2,0,0):=by
  obtain⟨h1,_,_⟩|⟨h1,_,_⟩|⟨_,h2,h3⟩:=hi he0
  ·exact absurd h1 (by decide)
  ·exact absurd h1 (by decide)
  obtain⟨x,y,z⟩:=r
  dsimp only at he0 h2 h3
  rw[he0,h2,h3]
 obtain⟨rfl,F14,hE14⟩:=hE10.out.step ha hr2 gv_sy2
 have hmap:=hide (map_n (id:=2) hE14 (by decide) ok_y22 pln_y22 fun i hi=>by have:=ps_y2 hi;omega)
 clear ha hkp hi her he0 hr2 hins hE10
 replace hE14:=hide hE14
 go_wp2_with fail
 refine hmap.out.mono ?_
 rintro e w15 ⟨r,ha,-,-,-,hr⟩
 have hr2:=tur_id (hr rfl (by decide))
 obtain⟨rfl,F15,hE15⟩:=hE14.out.step ha hr2 gv_sy2
 clear ha hr hr2 hmap hE14
 replace hE15:=hide hE15.k
 go_wp2_with fail
 go_ret
 exact⟨rfl,hE15.out⟩
end Sb
end Nt
end Go.Proofs.YtllfelooahplhaaGreatDoor

namespace Go.Proofs.YtllfelooahplhaaGreatDoor
open Go.RowKit Go.Sort Go.Shelf
open Tm At
open Nt Sb

theorem substNil_walk {w:World}(id v:Int)(ap:Option Addr)(np cp:Nat)(s:Bool)(a:Option Addr)(l c:Nat)(htab:Tab w):
  Calls Tryz.prog 8 #[.int .i64 id,.int .i64 v,.agg #[.slice ap np cp,.bool s,.slice a l c]] w fun e w'=>e= .returned (.bool true)∧Below w.heap.size w w':=by
 have b0:=below_alloc w (.cells #[.slice ap np cp,.bool s,.slice a l c] 47)
 have x0:TB (w.alloc (.cells #[.slice ap np cp,.bool s,.slice a l c] 47)) w.heap.size ap np cp s a l c:=heap_alloc_new w _
 have haw:=hide (awake12_n (htab.below b0))
 clear htab
 go_enter Tryz.func8,Tryz.ntmps8
 go_wp2_with fail
 refine haw.out.mono ?_
 rintro e w1 ⟨rfl,k1⟩
 clear haw
 have x1:=x0.below k1
 replace k1:=grow_step k1 b0
 clear x0 b0
 have g0:=x1.c0
 have g1:=x1.c1
 have g2:=x1.c2
 replace k1:=hide k1
 go_wp2_with fail
 clear g0 g1 g2
 refine(put_nil id v ap np cp s a l c).mono ?_
 rintro e w2 ⟨rfl,k2⟩
 have x2:=x1.below k2
 have k3:=hide (grow_step k2 k1.out)
 have b4:=hide (below_alloc' k3.out (.cells #[.int .i64 v,.bool s,.slice a l c] 51))
 clear x1 k1 k2
 have g0:=x2.c0
 have g1:=x2.c1
 have g2:=x2.c2
 go_wp2_with fail
 clear g0 g1 g2 x2 k3
 refine(inst_nil id _ _ _).mono ?_
 rintro e w5 ⟨rfl,rfl⟩
 go_wp2_with fail
 refine(map_nil id).mono ?_
 rintro e w6 ⟨rfl,rfl⟩
 go_wp2_with fail
 go_ret
 exact⟨rfl,b4.out⟩
end Go.Proofs.YtllfelooahplhaaGreatDoor
