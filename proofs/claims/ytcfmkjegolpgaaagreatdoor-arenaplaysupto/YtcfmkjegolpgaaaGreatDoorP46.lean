/-
 The law ArenaPlays: its walk.
-/
import Derived.Test.YtcfmkjegolpgaaaGreatDoorPT
import Derived.Test.YtcfmkjegolpgaaaGreatDoorP45
import Derived.Test.YtcfmkjegolpgaaaGreatDoorP43
import Derived.LaidEqlPtr
namespace Go.Proofs.YtcfmkjegolpgaaaGreatDoor
open Go.RowKit Go.Sort Go.Shelf
open Tm At
open Nt

def CB (w : World) (b : Nat) (kd xk : Int) (sd : Bool) (ad : Option Addr) (ld cd : Nat) (ap : Option Addr) (np cp : Nat) (sk : Bool) (ak : Option Addr) (lk ck : Nat) (n v : Int) (ka : Option Addr) (kn kc : Nat) : Prop:=w.heap[b]? = some (.cells #[.int .i64 kd,.int .i64 xk,.bool sd,.slice ad ld cd,.slice ap np cp,.bool sk,.slice ak lk ck,.int .i64 n,.int .i64 v,.slice ka kn kc] 45 (0,0))
namespace CB
variable {w w' : World} {b : Nat} {kd xk : Int} {sd : Bool} {ad : Option Addr} {ld cd : Nat} {ap : Option Addr} {np cp : Nat} {sk : Bool} {ak : Option Addr} {lk ck : Nat} {n v : Int} {ka : Option Addr} {kn kc : Nat}
theorem c0 (h : CB w b kd xk sd ad ld cd ap np cp sk ak lk ck n v ka kn kc) : w.cell? ⟨b,0,none⟩ = some (.int .i64 kd):=cell_of_row w b 0 _ _ (0,0) h
theorem c1 (h : CB w b kd xk sd ad ld cd ap np cp sk ak lk ck n v ka kn kc) : w.cell? ⟨b,1,none⟩ = some (.int .i64 xk):=cell_of_row w b 1 _ _ (0,0) h
theorem c2 (h : CB w b kd xk sd ad ld cd ap np cp sk ak lk ck n v ka kn kc) : w.cell? ⟨b,2,none⟩ = some (.bool sd):=cell_of_row w b 2 _ _ (0,0) h
theorem c3 (h : CB w b kd xk sd ad ld cd ap np cp sk ak lk ck n v ka kn kc) : w.cell? ⟨b,3,none⟩ = some (.slice ad ld cd):=cell_of_row w b 3 _ _ (0,0) h
theorem c4 (h : CB w b kd xk sd ad ld cd ap np cp sk ak lk ck n v ka kn kc) : w.cell? ⟨b,4,none⟩ = some (.slice ap np cp):=cell_of_row w b 4 _ _ (0,0) h
theorem c5 (h : CB w b kd xk sd ad ld cd ap np cp sk ak lk ck n v ka kn kc) : w.cell? ⟨b,5,none⟩ = some (.bool sk):=cell_of_row w b 5 _ _ (0,0) h
theorem c6 (h : CB w b kd xk sd ad ld cd ap np cp sk ak lk ck n v ka kn kc) : w.cell? ⟨b,6,none⟩ = some (.slice ak lk ck):=cell_of_row w b 6 _ _ (0,0) h
theorem c7 (h : CB w b kd xk sd ad ld cd ap np cp sk ak lk ck n v ka kn kc) : w.cell? ⟨b,7,none⟩ = some (.int .i64 n):=cell_of_row w b 7 _ _ (0,0) h
theorem c8 (h : CB w b kd xk sd ad ld cd ap np cp sk ak lk ck n v ka kn kc) : w.cell? ⟨b,8,none⟩ = some (.int .i64 v):=cell_of_row w b 8 _ _ (0,0) h
theorem c9 (h : CB w b kd xk sd ad ld cd ap np cp sk ak lk ck n v ka kn kc) : w.cell? ⟨b,9,none⟩ = some (.slice ka kn kc):=cell_of_row w b 9 _ _ (0,0) h
theorem lt (h : CB w b kd xk sd ad ld cd ap np cp sk ak lk ck n v ka kn kc) : b < w.heap.size:=lt_of_block h
theorem below (h : CB w b kd xk sd ad ld cd ap np cp sk ak lk ck n v ka kn kc) (k : Below w.heap.size w w') : CB w' b kd xk sd ad ld cd ap np cp sk ak lk ck n v ka kn kc:=(k.block b h.lt).trans h
theorem butF {G : Nat→Prop} (h : CB w b kd xk sd ad ld cd ap np cp sk ak lk ck n v ka kn kc) (k : ButF G w w') (hG : ¬ G b) : CB w' b kd xk sd ad ld cd ap np cp sk ak lk ck n v ka kn kc:=(k.block b h.lt hG).trans h
end CB

set_option maxRecDepth 100000 in
set_option maxHeartbeats 6400000 in
theorem arenaPlays_walk {w0 : World} {ad1 : Option Addr} {n1 c1 : Nat} {R1 : List Cl} {B : Nat} {nodes limbs : Int} (h1 : CL w0 ad1 n1 R1 B) (hn1 : n1≤1048576) (hB : B≤1048576) (hno : I64 nodes) (hli : I64 limbs) (htab : Tab w0) :
  Calls Tryz.prog 3 #[.slice ad1 n1 c1,.int .i64 nodes,.int .i64 limbs] w0 fun e w' => e = .returned (.bool true)∧Below w0.heap.size w0 w':=by
 go_enter Tryz.func3,Tryz.ntmps3
 go_wp2_with fail
 refine (awake8_n htab).mono ?_
 rintro e v1 ⟨rfl,k1⟩
 go_wp2_with fail
 refine (pick_n hno (by decide)).mono ?_
 rintro e v9 ⟨rfl,rfl⟩
 have hpn:=pick_lt nodes (n:=60) (by decide)
 generalize pick nodes 60 = pn at *
 go_wp2_with fail
 refine (pick_n hli (by decide)).mono ?_
 rintro e v8 ⟨rfl,rfl⟩
 have hpk:=pick_lt limbs (n:=4) (by decide)
 generalize pick limbs 4 = pk at *
 go_wp2_with fail
 refine (new_n o_m o_m o_m o_m).mono ?_
 rintro e v2 ⟨rfl,hM2,k2⟩
 generalize hpe : v8.heap.size = pm at *
 have hpm : w0.heap.size≤pm:=by have:=k1.size; omega
 have k12 : Hid (Below w0.heap.size w0 v2):=hide (grow_step (hpe ▸ k2) k1)
 have ht2:=hide (htab.below k12.out)
 replace hM2:=hide hM2
 clear k1 k2 hpe
 go_wp2_with fail
 refine (newM_ax hM2.out ht2.out).mono ?_
 rintro e v3 ⟨pa,Fa,rfl,hXa,hFa,k3⟩
 have hpm2:=hM2.out.lt
 have hM3:=hide (hM2.out.below k3)
 have k13:=hide (grow_step k3 k12.out)
 have s3:=k3.size
 have s2:=k12.out.size
 have hG3:=hide (hXa.ag hM3.out (Int.le_refl 0) o_m o_m (Int.le_refl 0) (by decide) (by decide))
 replace hFa:=hide hFa
 clear k3 hM2 ht2 k12 hXa hM3
 go_wp2_with fail
 refine refnew_n.mono ?_
 rintro e v4 ⟨rfl,hR4,k4⟩
 generalize hre : v3.heap.size = rm at *
 rw [← hre] at k4 s3
 have s4:=k4.size
 have hR4' : RBm v4 rm (1 + pn) (1 + pk) 0 0:=hR4
 have hG4:=hide (hG3.out.below k4)
 have k14:=hide (grow_step k4 k13.out)
 have hfl3:=hide hG3.out.fl
 clear hG3 k4 k13 hR4
 go_wp2_with fail
 refine (rnew8_n hR4' o_m o_m o_m).mono ?_
 rintro e v5 ⟨ra,Ra,rfl,hRG,hRa,k5⟩
 have s5:=k5.size
 have hrl:=hR4'.lt
 have hT0 : Two v5 pa pm ra rm (1 + pn) (1 + pk) st0 w0.heap.size Fa Ra :=
  ⟨hG4.out.below k5,hRG,fun b hb hr => by have h8:=hG4.out.fl b hb; have h9:=hRa b hr; omega,fun hr => by have h9:=hRa pm hr; omega,fun hf => by have h9:=hfl3.out rm hf; omega,by omega,fun b hb => by have h9:=hFa.out b hb; omega,fun b hr => by have h9:=hRa b hr; omega,hpm,by omega,sw_0⟩
 replace hT0:=hide hT0
 have k15:=hide (grow_step k5 k14.out)
 clear hRG hRa k5 hG4 k14 hR4' hFa hfl3 hrl hpm2 s2 s3 s4 s5 hre hpm
 have hnn1 : 1 + pn≤2000:=by omega
 generalize 1 + pn = nn at *
 generalize 1 + pk = kk at *
 clear hpn hpk
 go_wp2_with fail
 go_loopw [14] (fun i wr => ∃ (t : Nat) (s : St) (F R : Nat→Prop),t≤n1∧t≤200∧i = .int .i64 t∧Hid (Two wr pa pm ra rm nn kk s w0.heap.size F R)∧Hid (Below w0.heap.size w0 wr)) (fun i _ => n1 - (intOf i).toNat)
 case atStart => exact ⟨0,st0,Fa,Ra,Nat.zero_le _,Nat.zero_le _,rfl,hT0,k15⟩
 case round =>
  clear hT0 k15
  obtain ⟨t,s,F,R,htn,ht2,rfl,hT,k0⟩:=hrel
  by_cases htn2 : t < n1∧t < 200
  ·obtain ⟨hta,htb⟩:=htn2
   obtain ⟨hRl,h2⟩:=h1
   obtain ⟨b0,off,rfl,hb0,hCA⟩ : ∃ b off,ad1 = some ⟨b,off,none⟩∧b < w0.heap.size∧CA w0 b (off + t * 10) (R1[t]'o_m) B:=by
    rcases h2 with h2 | ⟨b,off,e,hb,h3⟩
    ·omega
    exact ⟨b,off,e,hb,h3 t o_m⟩
   generalize R1[t]'o_m = c at *
   obtain ⟨qk,qxk,qxd,qxp,qxt,qn,qv,qks⟩:=c
   clear hRl h2
   obtain ⟨sd,ad,ld,cd,ap,np,cp,sk,ak,lk,ck,ka,kn,kc,hc0,hzd,hld,hP,hnp,hzk,hlk,hJ,hkn,hik,hin,hiv,hkz⟩:=hCA
   dsimp only at hc0 hzd hP hzk hJ hik hin hiv
   obtain rfl:=hJ.1
   have hcr:=hc0.below k0.out
   have e0:=hcr.c0
   have e1:=hcr.c1
   have e2:=hcr.c2
   have e3:=hcr.c3
   have e4:=hcr.c4
   have e5:=hcr.c5
   have e6:=hcr.c6
   have e7:=hcr.c7
   have e8:=hcr.c8
   have e9:=hcr.c9
   have x1 : CB (wr.alloc (.cells #[.int .i64 qk,.int .i64 qxk,.bool sd,.slice ad ld cd,.slice ap np cp,.bool sk,.slice ak lk ck,.int .i64 qn,.int .i64 qv,.slice ka qks.length kc] 45)) wr.heap.size qk qxk sd ad ld cd ap np cp sk ak lk ck qn qv ka qks.length kc:=heap_alloc_new wr _
   have b1:=below_alloc wr (.cells #[.int .i64 qk,.int .i64 qxk,.bool sd,.slice ad ld cd,.slice ap np cp,.bool sk,.slice ak lk ck,.int .i64 qn,.int .i64 qv,.slice ka qks.length kc] 45)
   have hTf : Hid (∀ b,F b→w0.heap.size≤b):=hide hT.out.f
   have hFl : Hid (∀ b,F b→b < wr.heap.size):=hide hT.out.p.fl
   have hRl : Hid (∀ b,R b→b < wr.heap.size):=hide hT.out.r.fl
   have hpl:=hT.out.p.mb.lt
   have hrl:=hT.out.r.mb.lt
   have hm1:=hT.out.m1
   have hm2:=hT.out.m2
   have k01:=hide (grow_step b1 k0.out)
   have hJ1:=hide (hJ.below k01.out)
   have hT1:=hide (hT.out.below b1)
   have u9:=x1.c9
   clear hc0 hcr hT k0
   go_wp2_with (at_builtin; refine app_il rfl _ _ rfl rfl ka qks.length kc qks rfl hkz hJ1.out o_m ?_; intro a2 c2 w2 hI2 hN2 k2; have x2:=x1.below k2; have u0:=x2.c0)
   clear e0 e1 e2 e3 e4 e5 e6 e7 e8 e9 u9 u0
   have hT2:=hide (hT1.out.below k2)
   have k02:=hide (grow_step k2 k01.out)
   have s2:=k2.size
   have s1:=b1.size
   have s0:=k01.out.size
   have hN3 : Hid (InF (fun b => wr.heap.size + 1≤b) a2 qks.length):=hide fun b off e h0 => by have h9:=hN2 b off e h0; simp at h9; omega
   replace hI2:=hide hI2
   clear x1 b1 k2 k01 hJ1 hT1 hN2
   generalize hpc : wr.heap.size = pc at *
   refine (pick_n hik (by decide)).mono ?_
   rintro e w9 ⟨rfl,rfl⟩
   have hpk:=pick_lt qk (n:=5) (by decide)
   generalize pick qk 5 = q at *
   obtain hq | rfl | rfl | rfl : (q = 0 ∨ q = 1) ∨ q = 2 ∨ q = 3 ∨ q = 4:=by omega
   ·rcases hq with rfl | rfl
    all_goals
     have hsw:=hide (sw_A (nn:=nn) (kk:=kk) hT2.out.sw qxk qxd qxp qxt)
     have hra : Hid (∀ w',RG w' ra rm nn kk s R→Below w0.heap.size w0 w'→Calls Tryz.prog 12 #[.pointer (some ⟨ra,0,none⟩),.agg #[.int .i64 qxk,.bool sd,.slice ad ld cd,.slice ap np cp,.bool sk,.slice ak lk ck]] w' fun e w'' => RO w' w'' e ra rm nn kk R (actA nn kk s qxk qxd qxp qxt)):=hide fun w' h k => ratom_n (cp:=cp) h hT2.out.sw.c (hzd.below k) hld (hP.below k) (hzk.below k) hlk hnp hB
     have hpa:=hide (atom_ao2 (kd:=qxk) (cp:=cp) hT2.out.p (hzd.below k02.out) hld (hP.below k02.out) (hzk.below k02.out) hlk hnp hB (htab.below k02.out))
     generalize actA nn kk s qxk qxd qxp qxt = r at *
     obtain ⟨s',i',e'⟩:=r
     dsimp only at hsw
     have u1:=x2.c1
     have u2:=x2.c2
     have u3:=x2.c3
     have u4:=x2.c4
     have u5:=x2.c5
     have u6:=x2.c6
     go_wp2_with fail
     clear u1 u2 u3 u4 u5 u6
     refine hpa.out.mono ?_
     rintro e w3 ⟨rfl,F',hG3,hF3,hB3⟩
     dsimp only at hG3 ⊢
     clear hpa
     have hH:=hide (hT2.out.half hG3 hF3 hB3)
     have k03:=hide (k02.out.trans (hB3.below (fun b hb => hb.elim (fun e => by omega) (hTf.out b)) k02.out.size))
     have x3:=x2.butF hB3 (fun hb => hb.elim (fun e => by omega) fun hb => by have:=hFl.out _ hb; omega)
     have hI3:=hide (hI2.out.but hN3.out hB3 (fun b hb _ hf => hf.elim (fun e => by omega) fun hf => by have:=hFl.out _ hf; omega))
     have hrc:=hide (hra.out _ hH.out.r k03.out)
     have s3:=hB3.size
     clear hB3 hF3 hG3 hT2 hI2 x2 k02 hTf hFl hra
     have u1:=x3.c1
     have u2:=x3.c2
     have u3:=x3.c3
     have u4:=x3.c4
     have u5:=x3.c5
     have u6:=x3.c6
     go_wp2_with fail
     clear u1 u2 u3 u4 u5 u6
     refine hrc.out.mono ?_
     rintro e w4 ⟨rfl,R',hR4,hRs,hB4⟩
     dsimp only at hR4 ⊢
     have hT4:=hide (hH.out.two hR4 hRs hB4 hsw.out)
     have k04:=hide (k03.out.trans (hB4.below (fun b hb => hb.elim (fun e => by omega) (hH.out.g b)) k03.out.size))
     have x4:=x3.butF hB4 (fun hb => hb.elim (fun e => by omega) fun hb => by have:=hRl.out _ hb; omega)
     have hI4:=hide (hI3.out.but hN3.out hB4 (fun b hb _ hf => hf.elim (fun e => by omega) fun hf => by have:=hRl.out _ hf; omega))
     have hJ4:=hide (hJ.below k04.out)
     clear hB4 hRs hR4 hH hI3 x3 k03 hRl hrc
     have u9:=x4.c9
     go_wp2_with fail
     clear u9
     refine (ints_n hI4.out hJ4.out o_m).mono ?_
     rintro e w5 ⟨rfl,k5⟩
     rw [decide_eq_true rfl]
     have hT5:=hide (hT4.out.below k5)
     have k05:=hide (grow_step k5 k04.out)
     clear hT4 k04 k5 hI4 hJ4 x4
     go_wp2_with fail
     exact ⟨⟨t + 1,s',F',R',by omega,by omega,by go_num,hT5,k05⟩,by simp [intOf]; omega⟩
   ·have hsw:=hide (sw_J (nn:=nn) (kk:=kk) hT2.out.sw qn qks)
    have hra : Hid (∀ w',RG w' ra rm nn kk s R→Below w0.heap.size w0 w'→Calls Tryz.prog 14 #[.pointer (some ⟨ra,0,none⟩),.int .i64 qn,.slice ka qks.length kc] w' fun e w'' => RO w' w'' e ra rm nn kk R (actJ nn kk s qn qks)):=hide fun w' h k => rjoin_n (kc:=kc) h (hJ.below k) o_m
    have hpa:=hide (join_ao2 (kd:=qn) (kc:=c2) hT2.out.p hI2.out o_m (htab.below k02.out))
    generalize actJ nn kk s qn qks = r at *
    obtain ⟨s',i',e'⟩:=r
    dsimp only at hsw
    have u7:=x2.c7
    go_wp2_with fail
    clear u7
    refine hpa.out.mono ?_
    rintro e w3 ⟨rfl,F',hG3,hF3,hB3⟩
    dsimp only at hG3 ⊢
    clear hpa
    have hH:=hide (hT2.out.half hG3 hF3 hB3)
    have k03:=hide (k02.out.trans (hB3.below (fun b hb => hb.elim (fun e => by omega) (hTf.out b)) k02.out.size))
    have x3:=x2.butF hB3 (fun hb => hb.elim (fun e => by omega) fun hb => by have:=hFl.out _ hb; omega)
    have hI3:=hide (hI2.out.but hN3.out hB3 (fun b hb _ hf => hf.elim (fun e => by omega) fun hf => by have:=hFl.out _ hf; omega))
    have hrc:=hide (hra.out _ hH.out.r k03.out)
    have s3:=hB3.size
    clear hB3 hF3 hG3 hT2 hI2 x2 k02 hTf hFl hra
    have u7:=x3.c7
    have u9:=x3.c9
    go_wp2_with fail
    clear u7 u9
    refine hrc.out.mono ?_
    rintro e w4 ⟨rfl,R',hR4,hRs,hB4⟩
    dsimp only at hR4 ⊢
    have hT4:=hide (hH.out.two hR4 hRs hB4 hsw.out)
    have k04:=hide (k03.out.trans (hB4.below (fun b hb => hb.elim (fun e => by omega) (hH.out.g b)) k03.out.size))
    have x4:=x3.butF hB4 (fun hb => hb.elim (fun e => by omega) fun hb => by have:=hRl.out _ hb; omega)
    have hI4:=hide (hI3.out.but hN3.out hB4 (fun b hb _ hf => hf.elim (fun e => by omega) fun hf => by have:=hRl.out _ hf; omega))
    have hJ4:=hide (hJ.below k04.out)
    clear hB4 hRs hR4 hH hI3 x3 k03 hRl hrc
    have u9:=x4.c9
    go_wp2_with fail
    clear u9
    refine (ints_n hI4.out hJ4.out o_m).mono ?_
    rintro e w5 ⟨rfl,k5⟩
    rw [decide_eq_true rfl]
    have hT5:=hide (hT4.out.below k5)
    have k05:=hide (grow_step k5 k04.out)
    clear hT4 k04 k5 hI4 hJ4 x4
    go_wp2_with fail
    exact ⟨⟨t + 1,s',F',R',by omega,by omega,by go_num,hT5,k05⟩,by simp [intOf]; omega⟩
   ·by_cases hks : qks = []
    ·subst hks
     simp only [List.length_nil] at *
     have u9:=x2.c9
     have hJ4:=hide (hJ.below k02.out)
     go_wp2_with fail
     clear u9
     refine (ints_n hI2.out hJ4.out o_m).mono ?_
     rintro e w5 ⟨rfl,k5⟩
     rw [decide_eq_true rfl]
     have hT5:=hide (hT2.out.below k5)
     have k05:=hide (grow_step k5 k02.out)
     clear hT2 k02 k5 hI2 hJ4 x2
     go_wp2_with fail
     exact ⟨⟨t + 1,s,F,R,by omega,by omega,by go_num,hT5,k05⟩,by simp [intOf]; omega⟩
    have hkl : 0 < qks.length:=List.length_pos_iff.2 hks
    obtain ⟨kb,koff,rfl,hkb,hk0,hik0⟩ : ∃ b off,ka = some ⟨b,off,none⟩∧b < w0.heap.size∧w0.cell? ⟨b,off,none⟩ = some (.int .i64 qks[0])∧I64 qks[0]:=by
     rcases hJ.2 with h0 | ⟨b,off,e,hb,h3⟩
     ·omega
     have h4:=h3 0 hkl
     simp only [Nat.add_zero] at h4
     exact ⟨b,off,e,hb,h4⟩
    generalize qks[0] = k0 at *
    clear hks
    have hsw:=hide (sw_B (nn:=nn) (kk:=kk) hT2.out.sw qn qv k0)
    have hra : Hid (∀ w',RG w' ra rm nn kk s R→Below w0.heap.size w0 w'→Calls Tryz.prog 16 #[.pointer (some ⟨ra,0,none⟩),.int .i64 qn,.int .i64 qv,.int .i64 k0] w' fun e w'' => RO w' w'' e ra rm nn kk R (actB nn kk s qn qv k0)):=hide fun w' h k => rbind_n h hiv hik0
    have u9:=x2.c9
    go_wp2_with fail
    clear u9
    have kD:=grow_drew (Below.refl w9.heap.size w9)
    replace hT2:=hide (hT2.out.below kD)
    replace k02:=hide (grow_step kD k02.out)
    replace x2:=x2.below kD
    replace hI2:=hide (hI2.out.below kD)
    have hpa:=hide (bind_ao2 (kd:=qn) hT2.out.p hiv hik0 (htab.below k02.out))
    generalize actB nn kk s qn qv k0 = r at *
    obtain ⟨s',i',e'⟩:=r
    dsimp only at hsw
    have q0:=(k02.out.cell (p:=⟨kb,koff,none⟩) hkb).trans hk0
    refine wp_region_held_drew (S:=(fun w' => w'.cell? ⟨pc,7,none⟩ = some (.int .i64 qn)∧w'.cell? ⟨pc,8,none⟩ = some (.int .i64 qv)∧w'.cell? ⟨pc,9,none⟩ = some (.slice (some ⟨kb,koff,none⟩) qks.length kc)∧w'.cell? ⟨kb,koff,none⟩ = some (.int .i64 k0))) k_f (⟨x2.c7,x2.c8,x2.c9,q0⟩) (fun hHeld => ?_)
    show wpAnyH _ _ _ _ _ 15 _ _ _
    refine tkz 0 111 ?_
    (try simp only [pz])
    refine tkz 1 112 ?_
    (try simp only [pz])
    refine tkz 2 113 ?_
    (try simp only [pz])
    refine tkz 3 114 ?_
    (try simp only [pz])
    refine tkz 4 115 ?_
    (try simp only [pz])
    refine tkz 5 116 ?_
    (try simp only [pz])
    refine tkz 6 117 ?_
    (try simp only [pz])
    refine tkz 7 118 ?_
    (try simp only [pz])
    refine tkz 8 119 ?_
    (try simp only [pz])
    refine ryz 9 (some 120) (fun K hK => ?_) AllReadyH.nil
    go_simp
    refine Calls.mono hpa.out ?_
    rintro e w3 ⟨rfl,F',hG3,hF3,hB3⟩
    dsimp only at hG3
    clear hpa
    have hH:=hide (hT2.out.half hG3 hF3 hB3)
    have k03:=hide (k02.out.trans (hB3.below (fun b hb => hb.elim (fun e => by omega) (hTf.out b)) k02.out.size))
    have x3:=x2.butF hB3 (fun hb => hb.elim (fun e => by omega) fun hb => by have:=hFl.out _ hb; omega)
    have hI3:=hide (hI2.out.but hN3.out hB3 (fun b hb _ hf => hf.elim (fun e => by omega) fun hf => by have:=hFl.out _ hf; omega))
    have hrc:=hra
    have s3:=hB3.size
    clear hB3 hF3 hG3 hT2 hI2 x2 k02 hTf hFl hra
    clear q0
    have q0:=(k03.out.cell (p:=⟨kb,koff,none⟩) hkb).trans hk0
    (try go_wp2_with fail)
    refine hK.out _ _ ?_ ?_
    ·(try dsimp only); exact ⟨x3.c7,x3.c8,x3.c9,q0⟩
    clear hK K hHeld; intro hHeld
    (try simp only [pz])
    refine ryz 10 (some 110) (fun K hK => ?_) AllReadyH.nil
    go_simp
    refine hK.out _ _ ?_ ?_
    ·(try dsimp only); exact ⟨x3.c7,x3.c8,x3.c9,q0⟩
    clear hK K hHeld; intro hHeld
    (try simp only [pz])
    refine tkz 11 121 ?_
    (try simp only [pz])
    refine tkz 12 122 ?_
    (try simp only [pz])
    refine ryz 13 (some 15) (fun K hK => ?_) AllReadyH.nil
    go_simp
    refine hK.out _ _ ?_ ?_
    ·(try dsimp only); exact ⟨x3.c7,x3.c8,x3.c9,q0⟩
    clear hK K hHeld; intro hHeld
    (try simp only [pz])
    refine ryz 14 (some 17) (fun K hK => ?_) AllReadyH.nil
    go_simp
    refine hK.out _ _ ?_ ?_
    ·(try dsimp only); exact ⟨x3.c7,x3.c8,x3.c9,q0⟩
    clear hK K hHeld; intro hHeld
    (try simp only [pz])
    refine wpAnyH_done k_f ?_ _
    clear hHeld
    (try go_wp2_with fail)
    have kE:=grow_drew (Below.refl w3.heap.size w3)
    replace hH:=hide (hH.out.below kE)
    replace k03:=hide (grow_step kE k03.out)
    replace x3:=x3.below kE
    replace hI3:=hide (hI3.out.below kE)
    replace hrc:=hide (hrc.out _ hH.out.r k03.out)
    clear q0
    have q0:=(k03.out.cell (p:=⟨kb,koff,none⟩) hkb).trans hk0
    refine wp_region_held_drew (S:=(fun w' => w'.cell? ⟨pc,7,none⟩ = some (.int .i64 qn)∧w'.cell? ⟨pc,8,none⟩ = some (.int .i64 qv)∧w'.cell? ⟨pc,9,none⟩ = some (.slice (some ⟨kb,koff,none⟩) qks.length kc)∧w'.cell? ⟨kb,koff,none⟩ = some (.int .i64 k0))) k_f (⟨x3.c7,x3.c8,x3.c9,q0⟩) (fun hHeld => ?_)
    show wpAnyH _ _ _ _ _ 15 _ _ _
    refine tkz 0 124 ?_
    (try simp only [pz])
    refine tkz 1 125 ?_
    (try simp only [pz])
    refine tkz 2 126 ?_
    (try simp only [pz])
    refine tkz 3 127 ?_
    (try simp only [pz])
    refine tkz 4 128 ?_
    (try simp only [pz])
    refine tkz 5 129 ?_
    (try simp only [pz])
    refine tkz 6 130 ?_
    (try simp only [pz])
    refine tkz 7 131 ?_
    (try simp only [pz])
    refine tkz 8 132 ?_
    (try simp only [pz])
    refine ryz 9 (some 133) (fun K hK => ?_) AllReadyH.nil
    go_simp
    refine Calls.mono hrc.out ?_
    rintro e w4 ⟨rfl,R',hR4,hRs,hB4⟩
    dsimp only at hR4
    have hT4:=hide (hH.out.two hR4 hRs hB4 hsw.out)
    have k04:=hide (k03.out.trans (hB4.below (fun b hb => hb.elim (fun e => by omega) (hH.out.g b)) k03.out.size))
    have x4:=x3.butF hB4 (fun hb => hb.elim (fun e => by omega) fun hb => by have:=hRl.out _ hb; omega)
    have hI4:=hide (hI3.out.but hN3.out hB4 (fun b hb _ hf => hf.elim (fun e => by omega) fun hf => by have:=hRl.out _ hf; omega))
    have hJ4:=hide (hJ.below k04.out)
    clear hB4 hRs hR4 hH hI3 x3 k03 hRl hrc
    clear q0
    have q0:=(k04.out.cell (p:=⟨kb,koff,none⟩) hkb).trans hk0
    (try go_wp2_with fail)
    refine hK.out _ _ ?_ ?_
    ·(try dsimp only); exact ⟨x4.c7,x4.c8,x4.c9,q0⟩
    clear hK K hHeld; intro hHeld
    (try simp only [pz])
    refine ryz 10 (some 123) (fun K hK => ?_) AllReadyH.nil
    go_simp
    refine hK.out _ _ ?_ ?_
    ·(try dsimp only); exact ⟨x4.c7,x4.c8,x4.c9,q0⟩
    clear hK K hHeld; intro hHeld
    (try simp only [pz])
    refine tkz 11 134 ?_
    (try simp only [pz])
    refine tkz 12 135 ?_
    (try simp only [pz])
    refine ryz 13 (some 16) (fun K hK => ?_) AllReadyH.nil
    go_simp
    refine hK.out _ _ ?_ ?_
    ·(try dsimp only); exact ⟨x4.c7,x4.c8,x4.c9,q0⟩
    clear hK K hHeld; intro hHeld
    (try simp only [pz])
    refine ryz 14 (some 18) (fun K hK => ?_) AllReadyH.nil
    go_simp
    refine hK.out _ _ ?_ ?_
    ·(try dsimp only); exact ⟨x4.c7,x4.c8,x4.c9,q0⟩
    clear hK K hHeld; intro hHeld
    (try simp only [pz])
    refine wpAnyH_done k_f ?_ _
    clear hHeld
    have u9:=x4.c9
    go_wp2_with fail
    clear u9
    refine (ints_n hI4.out hJ4.out o_m).mono ?_
    rintro e w5 ⟨rfl,k5⟩
    rw [decide_eq_true rfl]
    have hT5:=hide (hT4.out.below k5)
    have k05:=hide (grow_step k5 k04.out)
    clear hT4 k04 k5 hI4 hJ4 x4
    go_wp2_with fail
    exact ⟨⟨t + 1,s',F',R',by omega,by omega,by go_num,hT5,k05⟩,by simp [intOf]; omega⟩
   have hsw:=hide (sw_R hT2.out.sw qn)
   have hra : Hid (∀ w',RG w' ra rm nn kk s R→Below w0.heap.size w0 w'→Calls Tryz.prog 18 #[.pointer (some ⟨ra,0,none⟩),.int .i64 qn] w' fun e w'' => e = .returned (.int .i64 (actR s qn).2)∧∃ R',RG w'' ra rm nn kk (actR s qn).1 R'∧(∀ b,R' b→R b ∨ w'.heap.size≤b)∧ButF (fun b => b = rm ∨ R b) w' w''):=hide fun w' h k => rrelease_n h
   have hpa:=hide (release_ao2 (n:=qn) hT2.out.p (fun w' hb => htab.below (k02.out.trans (hb.below hTf.out k02.out.size))))
   generalize actR s qn = r at *
   obtain ⟨s',e'⟩:=r
   dsimp only at hsw hra hpa
   have u7:=x2.c7
   go_wp2_with fail
   clear u7
   refine hpa.out.mono ?_
   rintro e w3 ⟨rfl,hG3,hB3'⟩
   have hB3:=hB3'.mono (fun b hb => (.inr hb : b = pm ∨ F b))
   have hF3 : ∀ b,F b→F b ∨ w9.heap.size≤b:=fun _ h => .inl h
   clear hpa hB3'
   have hH:=hide (hT2.out.half hG3 hF3 hB3)
   have k03:=hide (k02.out.trans (hB3.below (fun b hb => hb.elim (fun e => by omega) (hTf.out b)) k02.out.size))
   have x3:=x2.butF hB3 (fun hb => hb.elim (fun e => by omega) fun hb => by have:=hFl.out _ hb; omega)
   have hI3:=hide (hI2.out.but hN3.out hB3 (fun b hb _ hf => hf.elim (fun e => by omega) fun hf => by have:=hFl.out _ hf; omega))
   have hrc:=hide (hra.out _ hH.out.r k03.out)
   have s3:=hB3.size
   clear hB3 hF3 hG3 hT2 hI2 x2 k02 hTf hFl hra
   have u7:=x3.c7
   go_wp2_with fail
   clear u7
   refine hrc.out.mono ?_
   rintro e w4 ⟨rfl,R',hR4,hRs,hB4⟩
   dsimp only at hR4 ⊢
   have hT4:=hide (hH.out.two hR4 hRs hB4 hsw.out)
   have k04:=hide (k03.out.trans (hB4.below (fun b hb => hb.elim (fun e => by omega) (hH.out.g b)) k03.out.size))
   have x4:=x3.butF hB4 (fun hb => hb.elim (fun e => by omega) fun hb => by have:=hRl.out _ hb; omega)
   have hI4:=hide (hI3.out.but hN3.out hB4 (fun b hb _ hf => hf.elim (fun e => by omega) fun hf => by have:=hRl.out _ hf; omega))
   have hJ4:=hide (hJ.below k04.out)
   clear hB4 hRs hR4 hH hI3 x3 k03 hRl hrc
   have u9:=x4.c9
   go_wp2_with fail
   clear u9
   refine (ints_n hI4.out hJ4.out o_m).mono ?_
   rintro e w5 ⟨rfl,k5⟩
   rw [decide_eq_true rfl]
   have hT5:=hide (hT4.out.below k5)
   have k05:=hide (grow_step k5 k04.out)
   clear hT4 k04 k5 hI4 hJ4 x4
   go_wp2_with fail
   exact ⟨⟨t + 1,s',F,R',by omega,by omega,by go_num,hT5,k05⟩,by simp [intOf]; omega⟩
  have hsm:=hide (same8_law hT.out)
  obtain ⟨mi,hmi⟩ : ∃ j,Tryz.prog.info? 80 = some j:=Option.isSome_iff_exists.1 k_f
  clear h1
  by_cases hlt : t < n1
  ·obtain rfl : t = 200:=by omega
   go_wp2_with fail
   refine hsm.out.mono ?_
   rintro e w5 ⟨rfl,k5⟩
   have hmt:=hide (meter8_n (hT.out.below k5).p.ax)
   have kf:=hide (grow_step k5 k0.out)
   clear hsm hT k5 k0
   go_wp2_with fail
   refine hmt.out.mono ?_
   rintro e w6 ⟨rfl,rfl⟩
   go_wp2_with fail
   rw [run_eql_ptr_same _ ⟨pm,0,none⟩ Tryz.underlying25 hmi]
   go_wp2_with fail
   go_ret
   exact ⟨rfl,kf.out⟩
  obtain rfl : t = n1:=by omega
  go_wp2_with fail
  refine hsm.out.mono ?_
  rintro e w5 ⟨rfl,k5⟩
  have hmt:=hide (meter8_n (hT.out.below k5).p.ax)
  have kf:=hide (grow_step k5 k0.out)
  clear hsm hT k5 k0
  go_wp2_with fail
  refine hmt.out.mono ?_
  rintro e w6 ⟨rfl,rfl⟩
  go_wp2_with fail
  rw [run_eql_ptr_same _ ⟨pm,0,none⟩ Tryz.underlying25 hmi]
  go_wp2_with fail
  go_ret
  exact ⟨rfl,kf.out⟩
end Go.Proofs.YtcfmkjegolpgaaaGreatDoor
