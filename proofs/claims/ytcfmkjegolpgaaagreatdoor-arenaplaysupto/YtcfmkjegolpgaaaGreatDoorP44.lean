/-
 Several texts in one: H4,H5,H6,H7,H9,HA,HB.
-/
import Derived.Test.YtcfmkjegolpgaaaGreatDoorPT
import Derived.Test.YtcfmkjegolpgaaaGreatDoorP43
import Derived.Test.YtcfmkjegolpgaaaGreatDoorP09
import Derived.Laws.CopyOwn
import Derived.Test.YtcfmkjegolpgaaaGreatDoorP34
set_option maxRecDepth 100000
set_option maxHeartbeats 3200000
namespace Go.Proofs.YtcfmkjegolpgaaaGreatDoor
open Go.RowKit Go.Sort Go.Shelf
open Tm At
namespace Nt

theorem rnodeM_n {w : World} {b : Nat} {nn kk c e : Int} {ad : Option Addr} {m cp : Nat} {Q : List (Bool × List Int)} {B : Nat} {zs : List Int} (h : RBm w b nn kk c e) (hN : NL w ad m Q B) (hz : ∀ kk : Int,Q.any (isl kk) = zs.any fun z => decide (kk < (lim z : Int))) (hB : B≤4194304) (hm : m≤4194304) (hc : 0≤c) (hcn : c≤nn) (hn : nn≤2000) (he : 0≤e) :
    Calls Tryz.prog 70 #[.pointer (some ⟨b,0,none⟩),.slice ad m cp] w fun x w' => x = .returned (.int .i64 (mstep nn kk c e zs).1)∧RBm w' b nn kk (mstep nn kk c e zs).2.1 (mstep nn kk c e zs).2.2∧But b w w':=by
  by_cases h0 : e = 0
  · subst h0
    refine (Mt.refnode_n h hN hB hm hc hcn hn).mono ?_
    rintro x w' ⟨rfl,h1,h2⟩
    have e : mstep nn kk c 0 zs = if Q.any (isl kk) = true then (71,c,71) else if nn - c < 1 then (70,c,70) else (0,c + 1,0):=by
      unfold mstep
      rw [if_neg (by decide),← hz kk]
    rw [e]
    by_cases h3 : Q.any (isl kk) = true
    · simp only [if_pos h3] at h1 ⊢
      exact ⟨trivial,h1,h2⟩
    by_cases h4 : nn - c < 1
    · simp only [if_neg h3,if_pos h4] at h1 ⊢
      exact ⟨trivial,h1,h2⟩
    simp only [if_neg h3,if_neg h4] at h1 ⊢
    exact ⟨trivial,h1,h2⟩
  refine (Mt.refnode_over h o_m).mono ?_
  rintro x w' ⟨rfl,h1⟩
  unfold mstep
  rw [if_pos h0]
  exact ⟨rfl,h.below h1,Go.Proofs.YtcfmkjegolpgaaaGreatDoor.Below.but h1 b⟩
theorem lim_zero : lim 0 = 0:=rfl
def rnums (n : Nd) : List Int:=if n.kind = 3 ∨ n.kind = 4 then n.d :: (n.ps.map Prod.snd ++ [n.k]) else if n.kind = 2 then n.ps.map Prod.snd ++ [n.k] else []
def Nk (n : Nd) : Prop:=(n.kind = 3 ∨ n.kind = 4) ∨ (n.kind = 2∧n.d = 0) ∨ (¬ (n.kind = 2 ∨ n.kind = 3 ∨ n.kind = 4)∧n.d = 0∧n.k = 0∧n.ps = [])
theorem mstep_rnums {nn kk c e : Int} {n : Nd} (hk : 0≤kk) (h : Nk n) : mstep nn kk c e (rnums n) = mstep nn kk c e (nums n):=by
  have h0 : decide (kk < ((lim 0 : Nat) : Int)) = false:=by rw [lim_zero]; exact decide_eq_false o_m
  have ha : ((rnums n).any fun z => decide (kk < (lim z : Int))) = ((nums n).any fun z => decide (kk < (lim z : Int))):=by
    unfold rnums nums
    rcases h with h | ⟨h,hd⟩ | ⟨h,hd,hk2,hp⟩
    · rw [if_pos h,List.any_cons,List.any_append,List.any_cons,List.any_cons,List.any_cons,List.any_nil,Bool.or_false]
      congr 1
      exact Bool.or_comm _ _
    · rw [if_neg o_m,if_pos h,hd,List.any_append,List.any_cons,List.any_cons,List.any_cons,List.any_nil,Bool.or_false,h0,Bool.false_or]
      exact Bool.or_comm _ _
    rw [if_neg (fun e => h (.inr e)),if_neg (fun e => h (.inl e)),hd,hk2,hp,List.any_nil,List.any_cons,List.any_cons,h0]
    rfl
  unfold mstep
  rw [ha]
def RMd (w w' : World) (e : Ending) (ra rm : Nat) (nn kk : Int) (s : St) (C : Nat→Prop) (nv : Value) (s0 : Nat) (B : Nat) (n : Nd) : Prop :=
  e = .returned (.tuple #[.int .i64 (putE nn kk s n).2.1,.int .i64 (putE nn kk s n).2.2])∧∃ C' nv' X',RA w' ra rm (putE nn kk s n).1.L C' B nv' X'∧RBm w' rm nn kk (putE nn kk s n).1.c (putE nn kk s n).1.er∧(∀ b,RFF ra nv' C' b→RFF ra nv C b ∨ s0≤b)∧ButF (fun b => b = rm ∨ RFF ra nv C b) w w'
theorem rmd_found {w w' : World} {ra rm : Nat} {nn kk : Int} {s : St} {C : Nat→Prop} {nv : Value} {s0 B : Nat} {n : Nd} {X : List NR} {t : Nat} (h : RA w ra rm s.L C B nv X) (hm : RBm w rm nn kk s.c s.er) (hU : Uq s.L) (ht : s.L[t]? = some n) (k : Below w.heap.size w w') : RMd w w' (.returned (.tuple #[.int .i64 t,.int .i64 0])) ra rm nn kk s C nv s0 B n:=by
  unfold RMd
  rw [putE_found hU ht]
  exact ⟨rfl,C,nv,X,h.below k,hm.below k,fun _ h => .inl h,butF_below k⟩

theorem rmd_refused {w w6 : World} {ra rm : Nat} {nn kk : Int} {s : St} {C : Nat→Prop} {nv : Value} {s0 B : Nat} {n : Nd} {X : List NR} {m1 m2 m3 : Int} (hno : ∀ j : Nat,j < s.L.length→s.L[j]? ≠ some n) (hms : mstep nn kk s.c s.er (nums n) = (m1,m2,m3)) (hm1 : m1 ≠ 0) (h6 : RA w6 ra rm s.L C B nv X) (hm6 : RBm w6 rm nn kk m2 m3) (kF : ButF (fun b => b = rm) w w6) : RMd w w6 (.returned (.tuple #[.int .i64 0,.int .i64 m1])) ra rm nn kk s C nv s0 B n:=by
  unfold RMd putE
  rw [if_neg (spot_no (fun ⟨i,hi⟩ => hno i (List.getElem?_eq_some_iff.1 hi).1 hi)),hms,if_neg hm1]
  exact ⟨rfl,C,nv,X,h6,hm6,fun _ h => .inl h,kF.mono fun _ h => .inl h⟩
theorem rmd_made {w w7 : World} {ra rm : Nat} {nn kk : Int} {s : St} {C C' : Nat→Prop} {nv nv' : Value} {s0 B : Nat} {n : Nd} {X' : List NR} {m2 m3 : Int} (hno : ∀ j : Nat,j < s.L.length→s.L[j]? ≠ some n) (hms : mstep nn kk s.c s.er (nums n) = (0,m2,m3)) (h7 : RA w7 ra rm (s.L ++ [n]) C' B nv' X') (hm7 : RBm w7 rm nn kk m2 m3) (hs : ∀ b,RFF ra nv' C' b→RFF ra nv C b ∨ s0≤b) (kF : ButF (fun b => b = rm ∨ RFF ra nv C b) w w7) : RMd w w7 (.returned (.tuple #[.int .i64 (s.L.length : Int),.int .i64 0])) ra rm nn kk s C nv s0 B n:=by
  unfold RMd putE
  rw [if_neg (spot_no (fun ⟨i,hi⟩ => hno i (List.getElem?_eq_some_iff.1 hi).1 hi)),hms,if_pos rfl]
  exact ⟨rfl,C',nv',X',h7,hm7,hs,kF⟩

theorem rmade_n {s0 : Nat} {w : World} {ra rm : Nat} {nn kk : Int} {s : St} {C : Nat→Prop} {B : Nat} {nv : Value} {X : List NR} {x : NR} {n : Nd} (h : RA w ra rm s.L C B nv X) (hm : RBm w rm nn kk s.c s.er) (hx : NC (fun b => s0≤b∧b < w.heap.size) w x n B) (hU : Uq s.L) (hL : s.L.length≤1048576) (hB : B≤2097152) (hrs : rm < s0) (hsp : s0≤w.heap.size) (hfs : ∀ b,RFF ra nv C b→b < s0) (hrm : ¬ RFF ra nv C rm) (hnk : Nk n) (hkk : 0≤kk) (hc0 : 0≤s.c) (hcn : s.c≤nn) (hn2 : nn≤2000) (he0 : 0≤s.er) :
    Calls Tryz.prog 40 #[.pointer (some ⟨ra,0,none⟩),.agg x.enc.toArray] w fun e w' => RMd w w' e ra rm nn kk s C nv s0 B n:=by
  have hfound : Hid (∀ (t : Nat) w',s.L[t]? = some n→Below w.heap.size w w'→RMd w w' (.returned (.tuple #[.int .i64 t,.int .i64 0])) ra rm nn kk s C nv s0 B n):=hide (fun t w' ht k => rmd_found h hm hU ht k)
  generalize hLe : s.L = L at *
  replace hLe:=hide hLe
  have hq : Hid (∀ (t : Nat) (ht : t < L.length) w',Below w.heap.size w w'→Calls Tryz.prog 69 #[.agg ((X[t]'(by have:=h.len; omega)).enc).toArray,.agg x.enc.toArray] w' fun e w'' => Smb w' w'' e (L[t] = n)):=hide fun t ht w' hb => rsame8_n ((h.below hb).nodes t ht) (hx.move hb.size (fun b _ hl => hb.block b hl) (fun _ hb _ => hb)) hB
  have hXl:=h.len
  have y:=NB.new w x.kd x.sd x.ad x.ld x.cd x.ap x.np x.cp x.sk x.ak x.lk x.ck x.vr x.ka x.kn x.kc
  have b0:=below_alloc w (.cells #[.int .i64 x.kd,.bool x.sd,.slice x.ad x.ld x.cd,.slice x.ap x.np x.cp,.bool x.sk,.slice x.ak x.lk x.ck,.int .i64 x.vr,.slice x.ka x.kn x.kc] 65)
  obtain ⟨kd,sd,ad,ld,cd,ap,np,cp,sk,ak,lk,ck,vr,ka,kn,kc⟩:=x
  simp only [NR.enc] at *
  obtain ⟨av,cv,rfl⟩:=h.form
  have h0:=h.below b0
  go_enter Tryz.func40,Tryz.ntmps40
  go_wp2_with fail
  generalize w.alloc (.cells #[.int .i64 kd,.bool sd,.slice ad ld cd,.slice ap np cp,.bool sk,.slice ak lk ck,.int .i64 vr,.slice ka kn kc] 65) = wb at *
  generalize hpe : w.heap.size = p at *
  replace b0 : Hid (Below w.heap.size w wb):=hpe ▸ b0
  replace hpe:=hide hpe
  replace h0:=hide h0
  replace y:=hide y
  go_loopw [6] (fun i wr => ∃ t : Nat,t≤L.length∧i = .int .i64 t∧Hid (∀ j : Nat,j < t→L[j]? ≠ some n)∧Hid (Below wb.heap.size wb wr)) (fun i _ => L.length - (intOf i).toNat)
  case atStart => exact ⟨0,Nat.zero_le _,rfl,hide (fun j hj => absurd hj o_m),hide (Below.refl _ _)⟩
  case round =>
    obtain ⟨t,ht,rfl,hno,kr⟩:=hrel
    have hr:=h0.out.below kr.out
    have u0:=hr.c0
    by_cases htn : t < L.length
    · obtain ⟨g,cap,hsl,hgl,hcell⟩:=hr.cell htn
      injection hsl with ea eb ec
      subst ea ec
      have hc:=fun j hj => hcell j hj o_m
      have hs : Hid (∀ w',Below wr.heap.size wr w'→Calls Tryz.prog 69 #[.agg ((X[t]'o_m).enc).toArray,.agg #[.int .i64 kd,.bool sd,.slice ad ld cd,.slice ap np cp,.bool sk,.slice ak lk ck,.int .i64 vr,.slice ka kn kc]] w' fun e w'' => Smb w' w'' e (L[t] = n)):=hide (fun w' hw => hq.out t htn w' (by
        have:=grow_step hw (grow_step kr.out b0.out)
        rwa [hpe.out] at this))
      have e0:=hc 0 (by decide)
      have e1:=hc 1 (by decide)
      have e2:=hc 2 (by decide)
      have e3:=hc 3 (by decide)
      have e4:=hc 4 (by decide)
      have e5:=hc 5 (by decide)
      have e6:=hc 6 (by decide)
      have e7:=hc 7 (by decide)
      clear hc hcell
      generalize X[t] = xt at *
      simp only [NR.enc] at hs
      simp only [NR.enc,List.getElem?_cons_zero,List.getElem?_cons_succ,Nat.add_zero] at e0 e1 e2 e3 e4 e5 e6 e7
      have yr:=y.out.below kr.out
      have v0:=yr.c0
      have v1:=yr.c1
      have v2:=yr.c2
      have v3:=yr.c3
      have v4:=yr.c4
      have v5:=yr.c5
      have v6:=yr.c6
      have v7:=yr.c7
      have hral:=hr.pal
      have hpl:=yr.lt
      have hS : Hid (∀ w',Below wr.heap.size wr w'→w'.cell? ⟨ra,0,none⟩ = some (.slice (some ⟨g,0,none⟩) L.length cv)∧w'.cell? ⟨g,t * 8,none⟩ = some (.int .i64 xt.kd)∧w'.cell? ⟨g,t * 8 + 1,none⟩ = some (.bool xt.sd)∧w'.cell? ⟨g,t * 8 + 2,none⟩ = some (.slice xt.ad xt.ld xt.cd)∧w'.cell? ⟨g,t * 8 + 3,none⟩ = some (.slice xt.ap xt.np xt.cp)∧w'.cell? ⟨g,t * 8 + 4,none⟩ = some (.bool xt.sk)∧w'.cell? ⟨g,t * 8 + 5,none⟩ = some (.slice xt.ak xt.lk xt.ck)∧w'.cell? ⟨g,t * 8 + 6,none⟩ = some (.int .i64 xt.vr)∧w'.cell? ⟨g,t * 8 + 7,none⟩ = some (.slice xt.ka xt.kn xt.kc)∧w'.cell? ⟨p,0,none⟩ = some (.int .i64 kd)∧w'.cell? ⟨p,1,none⟩ = some (.bool sd)∧w'.cell? ⟨p,2,none⟩ = some (.slice ad ld cd)∧w'.cell? ⟨p,3,none⟩ = some (.slice ap np cp)∧w'.cell? ⟨p,4,none⟩ = some (.bool sk)∧w'.cell? ⟨p,5,none⟩ = some (.slice ak lk ck)∧w'.cell? ⟨p,6,none⟩ = some (.int .i64 vr)∧w'.cell? ⟨p,7,none⟩ = some (.slice ka kn kc)∧Below wr.heap.size wr w'):=hide (fun w' h => ⟨(h.cell (p:=⟨ra,0,none⟩) hral).trans u0,(h.cell (p:=⟨g,_,none⟩) hgl).trans e0,(h.cell (p:=⟨g,_,none⟩) hgl).trans e1,(h.cell (p:=⟨g,_,none⟩) hgl).trans e2,(h.cell (p:=⟨g,_,none⟩) hgl).trans e3,(h.cell (p:=⟨g,_,none⟩) hgl).trans e4,(h.cell (p:=⟨g,_,none⟩) hgl).trans e5,(h.cell (p:=⟨g,_,none⟩) hgl).trans e6,(h.cell (p:=⟨g,_,none⟩) hgl).trans e7,(h.cell (p:=⟨p,_,none⟩) hpl).trans v0,(h.cell (p:=⟨p,_,none⟩) hpl).trans v1,(h.cell (p:=⟨p,_,none⟩) hpl).trans v2,(h.cell (p:=⟨p,_,none⟩) hpl).trans v3,(h.cell (p:=⟨p,_,none⟩) hpl).trans v4,(h.cell (p:=⟨p,_,none⟩) hpl).trans v5,(h.cell (p:=⟨p,_,none⟩) hpl).trans v6,(h.cell (p:=⟨p,_,none⟩) hpl).trans v7,h⟩)
      have hnn : Hid (L[t] = n→L[t]? = some n):=hide (fun e => by rw [List.getElem?_eq_getElem htn,e])
      have hnk : Hid (¬ L[t] = n→∀ j : Nat,j < t + 1→L[j]? ≠ some n):=hide (fun e j hj => by
        by_cases hjt : j < t
        · exact hno.out j hjt
        obtain rfl : j = t:=by omega
        rw [List.getElem?_eq_getElem htn]
        exact fun h => e (by injection h))
      clear yr
      go_wp2_with fail
      clear e0 e1 e2 e3 e4 e5 e6 e7 v0 v1 v2 v3 v4 v5 v6 v7 u0
      go_region_held3 (fun w' => w'.cell? ⟨ra,0,none⟩ = some (.slice (some ⟨g,0,none⟩) L.length cv)∧w'.cell? ⟨g,t * 8,none⟩ = some (.int .i64 xt.kd)∧w'.cell? ⟨g,t * 8 + 1,none⟩ = some (.bool xt.sd)∧w'.cell? ⟨g,t * 8 + 2,none⟩ = some (.slice xt.ad xt.ld xt.cd)∧w'.cell? ⟨g,t * 8 + 3,none⟩ = some (.slice xt.ap xt.np xt.cp)∧w'.cell? ⟨g,t * 8 + 4,none⟩ = some (.bool xt.sk)∧w'.cell? ⟨g,t * 8 + 5,none⟩ = some (.slice xt.ak xt.lk xt.ck)∧w'.cell? ⟨g,t * 8 + 6,none⟩ = some (.int .i64 xt.vr)∧w'.cell? ⟨g,t * 8 + 7,none⟩ = some (.slice xt.ka xt.kn xt.kc)∧w'.cell? ⟨p,0,none⟩ = some (.int .i64 kd)∧w'.cell? ⟨p,1,none⟩ = some (.bool sd)∧w'.cell? ⟨p,2,none⟩ = some (.slice ad ld cd)∧w'.cell? ⟨p,3,none⟩ = some (.slice ap np cp)∧w'.cell? ⟨p,4,none⟩ = some (.bool sk)∧w'.cell? ⟨p,5,none⟩ = some (.slice ak lk ck)∧w'.cell? ⟨p,6,none⟩ = some (.int .i64 vr)∧w'.cell? ⟨p,7,none⟩ = some (.slice ka kn kc)∧Below wr.heap.size wr w')
        ((refine hS.out _ ?_; (with_reducible repeat' first | exact Below.refl _ _ | assumption | refine grow_step (by assumption) ?_ | refine grow_drew ?_ | refine grow_alloc ?_ _ | refine grow_drewN ?_ _)))
        (first | (go_at_call 69; refine Calls.mono (hs.out _ gw) ?_; rintro e w3 ⟨b,rfl,hb,hg3⟩; replace hb:=hide hb))
      rename_i hH
      have kw : Hid (Below wb.heap.size wb w3):=hide (grow_step hH.2.2.2.2.2.2.2.2.2.2.2.2.2.2.2.2.2 kr.out)
      clear hH hg3 hS hs kr
      cases b
      · have hnt:=hide (hnk.out (fun e => absurd (hb.out.2 e) Bool.false_ne_true))
        clear hb hnn hnk
        go_wp2_with fail
        exact ⟨⟨t + 1,by omega,by go_num,hnt,kw⟩,by simp [intOf]; omega⟩
      have hnt:=hide (hfound.out t w3 (hnn.out (hb.out.1 rfl)) (by
        have:=grow_step kw.out b0.out
        rwa [hpe.out] at this))
      clear hb hnn hnk
      go_wp2_with fail
      refine bodyPost_ret (results_tmp2 rfl _ _ _) rfl ?_
      exact hnt.out
    obtain rfl : t = L.length:=by omega
    clear hq hfound
    have yr:=y.out.below kr.out
    have v0:=yr.c0
    iterate 43 (first | go_skip | go_guarded | go_step | go_upon | go_simp)
    rename_i K1 hK1
    obtain ⟨i0,hi,iz0,iz1,iz2⟩:=info_parts info2
    have hpn : n.ps.length = np:=hx.pn.1
    have hnp : np≤1048576:=hx.hnp
    have htail1 : ∀ {u2 u4 u5 u6 u7 u9 u10 u11 u12 u13 u14 u15 u16 u17 u18 u19 u20 u21 u22 u23 u24 u25 u26 u27 u28 u29 u30 u31 u32 u33 u34 u35 u36 u37 u38 u39 u40 u41 u42 u43 u44 u45 u46 u47 u48 u49 u50 u51 u52 u53 u54 u55 u56 u57 u58 u59 u60 u61 u62 u63 u64 u65 u66 u67 u68 u69 u70 u71 u72 u73 u74 u75 u76 u77 u78 u79 u80 u81 u82 u83 u84 u85 u86 u87 u88 u89 u90 u91 u92 u93 u94 u95 u96 u97 u98 u99 u100 : Value} (vx : Value) (n0 : Nat) (N : List Raw) (z0 : List Int) (wx : World),N.length = n0→n0≤1→Hid (wx.ownsRow wb.heap.size 37 2 vx n0 (N.flatMap encN))→Hid (∀ x ∈ N,Zn w x.s x.a x.l x.c x.z∧x.l≤B)→Hid (N.map Raw.z = z0)→Hid (z0 = if n.kind = 3 ∨ n.kind = 4 then [n.d] else [])→Hid (Below wb.heap.size wb wx)→K1 ({ tmps:=#[.pointer (some ⟨ra,0,none⟩),.agg #[.int .i64 kd,.bool sd,.slice ad ld cd,.slice ap np cp,.bool sk,.slice ak lk ck,.int .i64 vr,.slice ka kn kc],u2,.pointer (some ⟨p,0,none⟩),u4,u5,u6,u7,vx,u9,u10,u11,u12,u13,u14,u15,u16,u17,u18,u19,u20,u21,u22,u23,u24,u25,u26,u27,u28,u29,u30,u31,u32,u33,u34,u35,u36,u37,u38,u39,u40,u41,u42,u43,u44,u45,u46,u47,u48,u49,u50,u51,u52,u53,u54,u55,u56,u57,u58,u59,u60,u61,u62,u63,u64,u65,u66,u67,u68,u69,u70,u71,u72,u73,u74,u75,u76,u77,u78,u79,u80,u81,u82,u83,u84,u85,u86,u87,u88,u89,u90,u91,u92,u93,u94,u95,u96,u97,u98,u99,u100],defers:=[] } : Act) wx:=by
      intros
      rename_i vx n0 N0 z0 wx hN0 hn0 hrow0 hok0 hNz0 hz0 kx
      apply hK1
      clear hK1 kr yr v0 hr u0
      iterate 1 (first | go_skip | go_guarded | go_step | go_upon | go_simp)
      rename_i K2 hK2
      have htail2 : ∀ {u2 u4 u5 u6 u7 u9 u10 u11 u12 u13 u14 u15 u16 u17 u18 u19 u20 u21 u22 u23 u24 u25 u26 u27 u28 u29 u30 u31 u32 u33 u34 u35 u36 u37 u38 u39 u40 u41 u42 u43 u44 u45 u46 u47 u48 u49 u50 u51 u52 u53 u54 u55 u56 u57 u58 u59 u60 u61 u62 u63 u64 u65 u66 u67 u68 u69 u70 u71 u72 u73 u74 u75 u76 u77 u78 u79 u80 u81 u82 u83 u84 u85 u86 u87 u88 u89 u90 u91 u92 u93 u94 u95 u96 u97 u98 u99 u100 : Value} (a5 : Option Addr) (m5 c5 : Nat) (Q5 : List (Bool × List Int)) (wx : World),m5≤1048580→Hid (NL wx a5 m5 Q5 B)→Hid (∀ kk : Int,Q5.any (isl kk) = (rnums n).any fun z => decide (kk < (lim z : Int)))→Hid (Below wb.heap.size wb wx)→K2 ({ tmps:=#[.pointer (some ⟨ra,0,none⟩),.agg #[.int .i64 kd,.bool sd,.slice ad ld cd,.slice ap np cp,.bool sk,.slice ak lk ck,.int .i64 vr,.slice ka kn kc],u2,.pointer (some ⟨p,0,none⟩),u4,u5,u6,u7,(.slice a5 m5 c5),u9,u10,u11,u12,u13,u14,u15,u16,u17,u18,u19,u20,u21,u22,u23,u24,u25,u26,u27,u28,u29,u30,u31,u32,u33,u34,u35,u36,u37,u38,u39,u40,u41,u42,u43,u44,u45,u46,u47,u48,u49,u50,u51,u52,u53,u54,u55,u56,u57,u58,u59,u60,u61,u62,u63,u64,u65,u66,u67,u68,u69,u70,u71,u72,u73,u74,u75,u76,u77,u78,u79,u80,u81,u82,u83,u84,u85,u86,u87,u88,u89,u90,u91,u92,u93,u94,u95,u96,u97,u98,u99,u100],defers:=[] } : Act) wx:=by
        clear hrow0 hok0 hNz0 hz0 kx hN0 hn0 N0 z0 n0 vx wx
        intros
        rename_i a5 m5 c5 Q5 wx hm5 h5 h6 k4
        apply hK2
        clear hK2
        have h4:=(h0.out.below k4.out).c1
        go_wp2_with fail
        refine Calls.mono (rnodeM_n (hm.below (by have:=grow_step k4.out b0.out; exact this)) h5.out h6.out o_m o_m hc0 hcn hn2 he0) ?_
        clear h5 h6 h4
        rintro e w6 ⟨rfl,hm6,kb⟩
        rw [mstep_rnums hkk hnk] at hm6 ⊢
        generalize hms : mstep nn kk s.c s.er (nums n) = ms at *
        obtain ⟨m1,m2,m3⟩:=ms
        replace hms:=hide hms
        dsimp only at *
        have kF : Hid (ButF (fun b => b = rm) w w6):=hide (ButF.trans (butF_below (by have:=grow_step k4.out b0.out; exact this)) ⟨kb.os,kb.tape,kb.output,kb.size,fun i hi hn => kb.block i hi hn⟩ (fun b _ h => h))
        have h6 : RA w6 ra rm L C B (.slice av L.length cv) X:=h.butF kF.out (fun b hb e => hrm (e ▸ hb))
        by_cases hm1 : m1 = 0
        · subst hm1
          have y6 : NB w6 p kd sd ad ld cd ap np cp sk ak lk ck vr ka kn kc:=(kb.block p (y.out.below k4.out).lt (fun e => by have:=hm.lt; have:=hpe.out; omega)).trans (y.out.below k4.out)
          go_wp2_with fail
          rename_i K3 hK3
          have kd6:=grow_drew (Below.refl w6.heap.size w6)
          refine wp_region_held_drew (S:=(fun w' => w'.cell? ⟨p,0,none⟩ = some (.int .i64 kd)∧w'.cell? ⟨p,1,none⟩ = some (.bool sd)∧w'.cell? ⟨p,2,none⟩ = some (.slice ad ld cd)∧w'.cell? ⟨p,3,none⟩ = some (.slice ap np cp)∧w'.cell? ⟨p,4,none⟩ = some (.bool sk)∧w'.cell? ⟨p,5,none⟩ = some (.slice ak lk ck)∧w'.cell? ⟨p,6,none⟩ = some (.int .i64 vr)∧w'.cell? ⟨p,7,none⟩ = some (.slice ka kn kc))) k_f (lay_S y6) (fun hHeld => ?_)
          show wpAnyH _ _ _ _ _ 11 _ _ _
          replace y6:=y6.below kd6
          replace h6:=h6.below kd6
          replace hm6:=hm6.below kd6
          replace kF : Hid (ButF (fun b => b = rm) w w6.drew):=hide (kF.out.trans (G:=fun b => b = rm) (butF_below kd6) (fun b _ h => h))
          clear kd6 kb
          generalize w6.drew = wQ at *
          refine tkz 0 85 ?_
          (try simp only [pz])
          refine tkz 1 86 ?_
          (try simp only [pz])
          refine tkz 2 87 ?_
          (try simp only [pz])
          refine tkz 3 88 ?_
          (try simp only [pz])
          refine tkz 5 90 ?_
          (try simp only [pz])
          have b7:=below_alloc wQ (.cells #[.int .i64 kd,.bool sd,.slice ad ld cd,.slice ap np cp,.bool sk,.slice ak lk ck,.int .i64 vr,.slice ka kn kc] 65)
          have h7:=h6.below b7
          have y7:=y6.below b7
          have hpa : p ≠ ra:=by have:=h.pal; have:=hpe.out; omega
          have hpo : Value.ownBlock (.slice av L.length cv) ≠ some p:=fun e => by have:=h.fl (b:=p) (.inr (.inl e)); have:=hpe.out; omega
          have hleaf : ∀ {u2 u4 u5 u6 u7 u9 u10 u11 u12 u13 u14 u15 u16 u17 u18 u19 u20 u21 u22 u23 u24 u25 u26 u27 u28 u29 u30 u31 u32 u33 u34 u35 u36 u37 u38 u39 u40 u41 u42 u43 u44 u45 u46 u47 u48 u49 u50 u51 u52 u53 u54 u55 u56 u57 u58 u59 u60 u61 u62 u63 u64 u65 u66 u67 u68 u69 u70 u71 u72 u73 u74 u75 u76 u77 u78 u79 u80 u81 u82 u83 u84 u85 u86 u87 u88 u89 u90 u91 u92 u93 u94 u95 u96 u97 u98 u99 u100 : Value} (gv kv : Nat) (w4 : World),w4.ownsRow 0 65 8 (.slice (some ⟨gv,0,none⟩) (L.length + 1) kv) (L.length + 1) (X.flatMap NR.enc ++ NR.enc (⟨kd,sd,ad,ld,cd,ap,np,cp,sk,ak,lk,ck,vr,ka,kn,kc⟩ : NR))→(wQ.alloc (.cells #[.int .i64 kd,.bool sd,.slice ad ld cd,.slice ap np cp,.bool sk,.slice ak lk ck,.int .i64 vr,.slice ka kn kc] 65)).grownBy w4 (Value.ownBlock (.slice av L.length cv))→(Value.ownBlock (.slice (some ⟨gv,0,none⟩) (L.length + 1) kv) = Value.ownBlock (.slice av L.length cv) ∨ Value.ownBlock (.slice (some ⟨gv,0,none⟩) (L.length + 1) kv) = some (wQ.alloc (.cells #[.int .i64 kd,.bool sd,.slice ad ld cd,.slice ap np cp,.bool sk,.slice ak lk ck,.int .i64 vr,.slice ka kn kc] 65)).heap.size)→K3 ({ tmps:=#[.pointer (some ⟨ra,0,none⟩),.agg #[.int .i64 kd,.bool sd,.slice ad ld cd,.slice ap np cp,.bool sk,.slice ak lk ck,.int .i64 vr,.slice ka kn kc],u2,.pointer (some ⟨p,0,none⟩),u4,u5,u6,u7,(.slice a5 m5 c5),u9,u10,u11,u12,u13,u14,u15,u16,u17,u18,u19,u20,u21,u22,u23,u24,u25,u26,u27,u28,u29,u30,u31,u32,u33,u34,u35,u36,u37,u38,u39,u40,u41,u42,u43,u44,u45,u46,u47,u48,u49,u50,u51,u52,u53,u54,u55,u56,u57,u58,u59,u60,u61,u62,u63,u64,u65,u66,u67,u68,u69,u70,u71,u72,u73,u74,u75,u76,u77,u78,u79,u80,u81,u82,u83,u84,u85,u86,u87,u88,u89,u90,u91,u92,u93,u94,u95,u96,u97,u98,u99,u100],defers:=[] } : Act) (w4.setCell ⟨ra,0,none⟩ (.slice (some ⟨gv,0,none⟩) (L.length + 1) kv)):=by
            intros
            rename_i gv kv w4 hown hgrow hat
            apply hK3
            clear hK3
            have hx7 : NC (fun b => s0≤b∧b < p) (wQ.alloc (.cells #[.int .i64 kd,.bool sd,.slice ad ld cd,.slice ap np cp,.bool sk,.slice ak lk ck,.int .i64 vr,.slice ka kn kc] 65)) (⟨kd,sd,ad,ld,cd,ap,np,cp,sk,ak,lk,ck,vr,ka,kn,kc⟩ : NR) n B:=hx.move (Nat.le_trans kF.out.size b7.size) (fun b hb hl => (b7.block b (Nat.lt_of_lt_of_le hl kF.out.size)).trans (kF.out.block b hl (fun e => by omega))) (fun _ hb _ => hb)
            obtain ⟨hF1,hF2⟩:=ra_lay (s0:=s0) (s1:=p) h7 (by have:=kF.out.size; have:=b7.size; have:=hpe.out; omega) hfs hx7 hown hgrow hat rfl
            have hm7 : RBm (w4.setCell ⟨ra,0,none⟩ (.slice (some ⟨gv,0,none⟩) (L.length + 1) kv)) rm nn kk m2 m3:=(heap_setCell_other _ _ _ _ (fun e => hrm (.inl e))).trans ((hgrow.block rm (hm6.below b7).lt (fun e => hrm (.inr (.inl e.symm)))).trans (hm6.below b7))
            have kG : Hid (ButF (fun b => b = rm ∨ RFF ra (.slice av L.length cv) C b) w (w4.setCell ⟨ra,0,none⟩ (.slice (some ⟨gv,0,none⟩) (L.length + 1) kv))):=hide (((kF.out.mono (G:=fun b => b = rm ∨ RFF ra (.slice av L.length cv) C b) (fun _ h => .inl h)).trans (butF_below (F:=fun b => b = rm ∨ RFF ra (.slice av L.length cv) C b) b7) (fun _ _ h => h)).trans hF2 (fun _ _ h => .inr h))
            have hsub : Hid (∀ b,RFF ra (.slice (some ⟨gv,0,none⟩) (L.length + 1) kv) (fun b => C b ∨ (s0≤b∧b < p)) b→RFF ra (.slice av L.length cv) C b ∨ s0≤b):=hide (by
              rintro b (hb | hb | hb | hb)
              · exact .inl (.inl hb)
              · rcases hat with e | e
                · exact .inl (.inr (.inl (e ▸ hb)))
                rw [e] at hb
                injection hb with hb
                have:=kF.out.size; have:=b7.size; have:=hpe.out; have:=hsp; exact .inr o_m
              · exact .inl (.inr (.inr hb))
              exact .inr hb.1)
            generalize w4.setCell ⟨ra,0,none⟩ (.slice (some ⟨gv,0,none⟩) (L.length + 1) kv) = w7 at *
            replace hF1:=hide hF1
            replace hm7:=hide hm7
            clear hF2 hown hgrow hat hx7
            have u1:=hF1.out.c0
            go_wp2_with fail
            refine bodyPost_ret (results_tmp2 rfl _ _ _) rfl ?_
            have hfin:=rmd_made (s:=s) (fun j hj => by rw [hLe.out]; exact hno.out j (by rw [← hLe.out]; exact hj)) hms.out (by rw [hLe.out]; exact hF1.out) hm7.out hsub.out kG.out
            rw [hLe.out] at hfin
            exact hfin
          clear hK3
          refine wpAnyH_ready (rs:=[4,6]) k_f (by simp) ?_
          refine AllReadyH.cons (o:=⟨some 89,_,_,_,_,_⟩) rfl (fun K hK => ?_) ?_
          · skip
            have u1:=h6.c0
            go_simp
            clear u1
            refine hK.out _ _ ?_ ?_
            · (try dsimp only); exact lay_S y6
            clear hK K hHeld; intro hHeld
            (try simp only [pz])
            refine ryz 6 (some 91) (fun K hK => ?_) AllReadyH.nil
            go_simp
            refine hK.out _ _ ?_ ?_
            · (try dsimp only); exact lay_S y7
            clear hK K hHeld; intro hHeld
            (try simp only [pz])
            refine ryz 7 (some 92) (fun K hK => ?_) AllReadyH.nil
            refine anyH_app rfl _ _ 59 rfl _ _ rfl rfl _ (run_node (⟨kd,sd,ad,ld,cd,ap,np,cp,sk,ak,lk,ck,vr,ka,kn,kc⟩ : NR) _ h6.row hL) ?_
            rintro v' w4 ⟨hown,hgrow,hat⟩
            obtain ⟨gv,kv,rfl⟩:=Joins.ownsRow_form hown o_m
            have hb4:=(hgrow.block ra h7.pal (fun e => h7.av e.symm)).trans h7.blk
            have y4 : NB w4 p kd sd ad ld cd ap np cp sk ak lk ck vr ka kn kc:=(hgrow.block p y7.lt (fun e => hpo e.symm)).trans y7
            refine hK.out _ _ ?_ ?_
            · (try dsimp only); exact lay_S y4
            clear hK K hHeld; intro hHeld
            (try simp only [pz])
            refine ryz 8 (some 93) (fun K hK => ?_) AllReadyH.nil
            go_simp
            refine hK.out _ _ ?_ ?_
            · (try dsimp only); exact lay_S y4
            clear hK K hHeld; intro hHeld
            (try simp only [pz])
            refine ryz 9 (some 94) (fun K hK => ?_) AllReadyH.nil
            go_simp
            refine hK.out _ _ ?_ ?_
            · (try dsimp only); exact lay_S y4
            clear hK K hHeld; intro hHeld
            (try simp only [pz])
            refine ryz 10 none (fun K hK => ?_) AllReadyH.nil
            have f0:=cell_of_row _ ra 0 _ _ (0,0) hb4
            have f1:=frozen_of_row w4 ra 0 _ _ hb4
            go_simp
            have y5 : NB (w4.setCell ⟨ra,0,none⟩ (.slice (some ⟨gv,0,none⟩) (L.length + 1) kv)) p kd sd ad ld cd ap np cp sk ak lk ck vr ka kn kc:=(heap_setCell_other _ _ _ _ hpa).trans y4
            refine hK.out _ _ ?_ ?_
            · (try dsimp only); exact lay_S y5
            clear hK K hHeld; intro hHeld
            (try simp only [pz])
            refine wpAnyH_done k_f ?_ _
            exact hleaf _ _ _ hown hgrow hat
          refine AllReadyH.cons (o:=⟨some 91,_,_,_,_,_⟩) rfl (fun K hK => ?_) AllReadyH.nil
          go_simp
          refine hK.out _ _ ?_ ?_
          · (try dsimp only); exact lay_S y7
          clear hK K hHeld; intro hHeld
          (try simp only [pz])
          refine ryz 4 (some 89) (fun K hK => ?_) AllReadyH.nil
          have u1:=h7.c0
          go_simp
          clear u1
          refine hK.out _ _ ?_ ?_
          · (try dsimp only); exact lay_S y7
          clear hK K hHeld; intro hHeld
          (try simp only [pz])
          refine ryz 7 (some 92) (fun K hK => ?_) AllReadyH.nil
          refine anyH_app rfl _ _ 59 rfl _ _ rfl rfl _ (run_node (⟨kd,sd,ad,ld,cd,ap,np,cp,sk,ak,lk,ck,vr,ka,kn,kc⟩ : NR) _ h6.row hL) ?_
          rintro v' w4 ⟨hown,hgrow,hat⟩
          obtain ⟨gv,kv,rfl⟩:=Joins.ownsRow_form hown o_m
          have hb4:=(hgrow.block ra h7.pal (fun e => h7.av e.symm)).trans h7.blk
          have y4 : NB w4 p kd sd ad ld cd ap np cp sk ak lk ck vr ka kn kc:=(hgrow.block p y7.lt (fun e => hpo e.symm)).trans y7
          refine hK.out _ _ ?_ ?_
          · (try dsimp only); exact lay_S y4
          clear hK K hHeld; intro hHeld
          (try simp only [pz])
          refine ryz 8 (some 93) (fun K hK => ?_) AllReadyH.nil
          go_simp
          refine hK.out _ _ ?_ ?_
          · (try dsimp only); exact lay_S y4
          clear hK K hHeld; intro hHeld
          (try simp only [pz])
          refine ryz 9 (some 94) (fun K hK => ?_) AllReadyH.nil
          go_simp
          refine hK.out _ _ ?_ ?_
          · (try dsimp only); exact lay_S y4
          clear hK K hHeld; intro hHeld
          (try simp only [pz])
          refine ryz 10 none (fun K hK => ?_) AllReadyH.nil
          have f0:=cell_of_row _ ra 0 _ _ (0,0) hb4
          have f1:=frozen_of_row w4 ra 0 _ _ hb4
          go_simp
          have y5 : NB (w4.setCell ⟨ra,0,none⟩ (.slice (some ⟨gv,0,none⟩) (L.length + 1) kv)) p kd sd ad ld cd ap np cp sk ak lk ck vr ka kn kc:=(heap_setCell_other _ _ _ _ hpa).trans y4
          refine hK.out _ _ ?_ ?_
          · (try dsimp only); exact lay_S y5
          clear hK K hHeld; intro hHeld
          (try simp only [pz])
          refine wpAnyH_done k_f ?_ _
          exact hleaf _ _ _ hown hgrow hat
        go_wp2_with fail
        refine bodyPost_ret (results_tmp2 rfl _ _ _) rfl ?_
        exact rmd_refused (fun j hj => by rw [hLe.out]; exact hno.out j (by rw [← hLe.out]; exact hj)) hms.out hm1 (by rw [hLe.out]; exact h6) hm6 kF.out
      clear hK2
      have hkd : Hid (kd = n.kind):=hide hx.kd
      have yx:=y.out.below kx.out
      have v0:=yx.c0
      have v3:=yx.c3
      by_cases hk : 2≤kd∧kd≤4
      · obtain ⟨hk1,hk2⟩:=hk
        go_wp2_with fail
        go_loopw [8,9] (fun vv i wr => ∃ (t : Nat) (N : List Raw),t≤np∧i = .int .i64 t∧N.length = n0 + t∧Hid (wr.ownsRow wb.heap.size 37 2 vv (n0 + t) (N.flatMap encN))∧Hid (∀ x ∈ N,Zn w x.s x.a x.l x.c x.z∧x.l≤B)∧Hid (N.map Raw.z = z0 ++ (n.ps.take t).map Prod.snd)∧Hid (Below wb.heap.size wb wr)) (fun _ i _ => np - (intOf i).toNat)
        case atStart => exact ⟨0,N0,Nat.zero_le _,rfl,hN0,hrow0,hok0,hide (by rw [hNz0.out]; simp),kx⟩
        case round =>
          clear v0 v3 yx hrow0 hok0 hNz0 kx
          obtain ⟨t,N,ht,rfl,hN,hrow,hok,hNz,kr⟩:=hrel
          have yr:=y.out.below kr.out
          have v3:=yr.c3
          have v4:=yr.c4
          have v5:=yr.c5
          have hbase : Hid (wb.heap.size≤wr.heap.size):=hide kr.out.size
          by_cases htn : t < np
          · rcases hx.pn.pn.2 with h | ⟨bp,op,rfl,hbp,hP2⟩
            · exact absurd (show np = 0 from h) o_m
            obtain ⟨s2,a2,l2,c2,e0,e1,e2,hz2,hl2,hv2⟩:=hP2 t o_m
            have kw : Hid (Below w.heap.size w wr):=hide (grow_step kr.out b0.out)
            replace e0:=((kw.out).cell (p:=⟨bp,op + t * 3,none⟩) hbp).trans e0
            replace e1:=((kw.out).cell (p:=⟨bp,op + t * 3 + 1,none⟩) hbp).trans e1
            replace e2:=((kw.out).cell (p:=⟨bp,op + t * 3 + 2,none⟩) hbp).trans e2
            have hps' : Hid (n.ps.take (t + 1) = n.ps.take t ++ [n.ps[t]]):=List.take_succ_eq_append_getElem (l:=n.ps) (i:=t) o_m
            clear hP2
            generalize n.ps[t] = pp at *
            replace hz2:=hide hz2
            have ka1:=below_alloc wr (.cells #[.bool s2,.slice a2 l2 c2] 37)
            have kab:=hide (grow_step ka1 kr.out)
            clear ka1
            go_wp2_with (at_builtin; refine wpList_append_own_at _ rfl _ _ 116 rfl wb.heap.size 37 i0 _ 2 32 Tryz.underlying116 hi iz0 iz1 iz2 rfl (by decide) _ _ _ rfl (hrow.out.alloc _) ⟨wr.heap.size,0,none⟩ 1 1 [.bool s2,.slice a2 l2 c2] rfl rfl (by simpa using two_new wr s2 a2 l2 c2) (two_one _ _ _ _) (by unfold maxLen; omega) o_m (by have:=hbase.out; simp; omega) ?_; intro v' w4 hown' hgrow hnil hat'; skip)
            have k4 : Hid (Below wb.heap.size wb w4):=hide (kab.out.grown hgrow kab.out.size (fun k e => (World.ownsRow.lt hrow.out k e).1))
            refine ⟨⟨t + 1,N ++ [⟨pp.1,s2,a2,l2,c2,pp.2⟩],by omega,by go_num,by simp; omega,?_,?_,?_,k4⟩,by simp [intOf]; omega⟩
            · refine hide ?_
              rw [List.flatMap_append]
              exact hown'
            · exact fun x hx => (List.mem_append.1 hx).elim (hok.out x) (fun h => by rw [List.mem_singleton.1 h]; exact ⟨hz2.out,hl2⟩)
            show _ = _
            rw [List.map_append,hNz.out,hps'.out,List.map_append,List.append_assoc]
            rfl
          obtain rfl : t = np:=by omega
          rw [List.take_of_length_le (Nat.le_of_eq hpn)] at hNz
          have ka1:=below_alloc wr (.cells #[.bool sk,.slice ak lk ck] 37)
          have kab:=hide (grow_step ka1 kr.out)
          clear ka1
          go_wp2_with (at_builtin; refine wpList_append_own_at _ rfl _ _ 116 rfl wb.heap.size 37 i0 _ 2 32 Tryz.underlying116 hi iz0 iz1 iz2 rfl (by decide) _ _ _ rfl (hrow.out.alloc _) ⟨wr.heap.size,0,none⟩ 1 1 [.bool sk,.slice ak lk ck] rfl rfl (by simpa using two_new wr sk ak lk ck) (two_one _ _ _ _) (by unfold maxLen; omega) o_m (by have:=hbase.out; simp; omega) ?_; intro v' w4 hown' hgrow hnil hat'; skip)
          have k4:=kab.out.grown hgrow kab.out.size (fun k e => (World.ownsRow.lt hrow.out k e).1)
          obtain ⟨a5,c5,Q5,rfl,h5,h6⟩:=row_nl (B:=B) (w0:=w) (N:=N ++ [⟨0,sk,ak,lk,ck,n.k⟩]) (by rw [List.flatMap_append]; exact hown') (by simp; omega) (by have:=grow_step k4 b0.out; exact this) (fun x hx' => (List.mem_append.1 hx').elim (hok.out x) (fun h => by rw [List.mem_singleton.1 h]; exact ⟨hx.zk,hx.hlk⟩))
          have hzs : (N ++ [(⟨0,sk,ak,lk,ck,n.k⟩ : Raw)]).map Raw.z = rnums n:=by
            rw [List.map_append,hNz.out,hz0.out]
            unfold rnums
            by_cases h34 : n.kind = 3 ∨ n.kind = 4
            · rw [if_pos h34,if_pos h34]
              simp
            rw [if_neg h34,if_neg h34,if_pos (by have:=hkd.out; omega)]
            simp
          rw [hzs] at h6
          exact htail2 a5 _ c5 Q5 w4 o_m (hide h5) (hide h6) (hide k4)
      obtain ⟨a5,c5,Q5,rfl,h5,h6⟩:=row_nl (B:=B) (w0:=w) hrow0.out hN0 (by have:=grow_step kx.out b0.out; exact this) hok0.out
      have hzs : N0.map Raw.z = rnums n:=by
        rw [hNz0.out,hz0.out]
        unfold rnums
        rw [if_neg (by have:=hkd.out; omega),if_neg (by have:=hkd.out; omega),if_neg (by have:=hkd.out; omega)]
      rw [hzs] at h6
      replace h5:=hide h5
      replace h6:=hide h6
      by_cases hk1 : 2≤kd
      · have hk2 : ¬ kd≤4:=fun e => hk ⟨hk1,e⟩
        go_wp2_with fail
        exact htail2 a5 _ c5 Q5 wx o_m h5 h6 kx
      go_wp2_with fail
      exact htail2 a5 _ c5 Q5 wx o_m h5 h6 kx
    clear hK1
    have hkd : Hid (kd = n.kind):=hide hx.kd
    have v1:=yr.c1
    have v2:=yr.c2
    have hbase : Hid (wb.heap.size≤wr.heap.size):=hide kr.out.size
    by_cases hk34 : kd = 3 ∨ kd = 4
    · have hz0 : Hid ([n.d] = if n.kind = 3 ∨ n.kind = 4 then [n.d] else []):=hide (by rw [if_pos (by have:=hkd.out; omega)])
      have hrow0:=hide (World.ownsRow_nil wr wb.heap.size 37 2)
      have kab:=hide (grow_alloc kr.out (.cells #[.bool sd,.slice ad ld cd] 37))
      rcases hk34 with rfl | rfl <;>
        (go_wp2_with (at_builtin; refine wpList_append_own_at _ rfl _ _ 116 rfl wb.heap.size 37 i0 _ 2 32 Tryz.underlying116 hi iz0 iz1 iz2 rfl (by decide) _ _ _ rfl (hrow0.out.alloc _) ⟨wr.heap.size,0,none⟩ 1 1 [.bool sd,.slice ad ld cd] rfl rfl (by simpa using two_new wr sd ad ld cd) (two_one _ _ _ _) (by unfold maxLen; omega) o_m (by have:=hbase.out; simp; omega) ?_; intro v' w4 hown' hgrow hnil hat'; skip)
         exact htail1 v' 1 [⟨0,sd,ad,ld,cd,n.d⟩] [n.d] w4 rfl (Nat.le_refl _) (hide (by simpa [encN] using hown')) (hide (fun x hx' => by rw [List.mem_singleton.1 hx']; exact ⟨hx.zd,hx.hld⟩)) (hide rfl) hz0 (hide (kab.out.grown hgrow kab.out.size (fun k e => (World.ownsRow.lt hrow0.out k e).1))))
    have hz0 : Hid ([] = if n.kind = 3 ∨ n.kind = 4 then [n.d] else []):=hide (by rw [if_neg (by have:=hkd.out; omega)])
    have hk3 : (kd == 3) = false:=beq_eq_false_iff_ne.2 fun e => hk34 (.inl e)
    have hk4 : (kd == 4) = false:=beq_eq_false_iff_ne.2 fun e => hk34 (.inr e)
    replace hk34:=hide hk34
    go_wp2_with fail
    exact htail1 (.slice none 0 0) 0 [] [] wr rfl o_m (hide (World.ownsRow_nil wr wb.heap.size 37 2)) (hide (fun x hx' => by cases hx')) (hide rfl) hz0 kr
end Nt
namespace Nt

structure RG (w : World) (ra rm : Nat) (nn kk : Int) (s : St) (R : Nat→Prop) : Prop where
  ar : ∃ C nv X,RA w ra rm s.L C 2097152 nv X∧¬ RFF ra nv C rm∧∀ b,RFF ra nv C b→R b
  mb : RBm w rm nn kk s.c s.er
  c0 : 0≤s.c
  cn : s.c≤nn
  n2 : nn≤2000
  k0 : 0≤kk
  e0 : 0≤s.er
  ln : (s.L.length : Int)≤s.c + 2
  uq : Uq s.L
  fl : ∀ b,R b→b < w.heap.size
theorem RG.below {w w' : World} {ra rm : Nat} {nn kk : Int} {s : St} {R : Nat→Prop} (h : RG w ra rm nn kk s R) (k : Below w.heap.size w w') : RG w' ra rm nn kk s R:=by
  obtain ⟨C,nv,X,h1,h2,h3⟩:=h.ar
  exact ⟨⟨C,nv,X,h1.below k,h2,h3⟩,h.mb.below k,h.c0,h.cn,h.n2,h.k0,h.e0,h.ln,h.uq,fun b hb => Nat.lt_of_lt_of_le (h.fl b hb) k.size⟩
def RO (w w' : World) (e : Ending) (ra rm : Nat) (nn kk : Int) (R : Nat→Prop) (r : St × Int × Int) : Prop :=
  e = .returned (.tuple #[.int .i64 r.2.1,.int .i64 r.2.2])∧∃ R',RG w' ra rm nn kk r.1 R'∧(∀ b,R' b→R b ∨ w.heap.size≤b)∧ButF (fun b => b = rm ∨ R b) w w'
theorem ro_now {w w' : World} {ra rm : Nat} {nn kk : Int} {s : St} {R : Nat→Prop} (hG : RG w ra rm nn kk s R) (k : Below w.heap.size w w') (i er : Int) : RO w w' (.returned (.tuple #[.int .i64 i,.int .i64 er])) ra rm nn kk R (s,i,er) :=
  ⟨rfl,R,hG.below k,fun _ h => .inl h,butF_below k⟩
theorem putE_inv {nn kk : Int} {s : St} (n : Nd) (h0 : 0≤s.c) (h1 : s.c≤nn) (h2 : 0≤s.er) (h3 : (s.L.length : Int)≤s.c + 2) (h4 : Uq s.L) : 0≤(putE nn kk s n).1.c∧(putE nn kk s n).1.c≤nn∧0≤(putE nn kk s n).1.er∧((putE nn kk s n).1.L.length : Int)≤(putE nn kk s n).1.c + 2∧Uq (putE nn kk s n).1.L:=by
  by_cases hf : ∃ i : Nat,s.L[i]? = some n
  · obtain ⟨i,hi⟩:=hf
    rw [putE_found h4 hi]
    exact ⟨h0,h1,h2,h3,h4⟩
  have hU : Uq (s.L ++ [n]):=by
    intro i j m hi hj
    by_cases hil : i < s.L.length
    · rw [List.getElem?_append_left hil] at hi
      by_cases hjl : j < s.L.length
      · rw [List.getElem?_append_left hjl] at hj
        exact h4 i j m hi hj
      obtain ⟨hj1,hj2⟩:=List.getElem?_eq_some_iff.1 hj
      rw [List.getElem_append_right o_m] at hj2
      simp at hj2
      exact absurd ⟨i,hj2 ▸ hi⟩ hf
    obtain ⟨hi1,hi2⟩:=List.getElem?_eq_some_iff.1 hi
    rw [List.getElem_append_right o_m] at hi2
    simp at hi2
    by_cases hjl : j < s.L.length
    · rw [List.getElem?_append_left hjl] at hj
      exact absurd ⟨j,hi2 ▸ hj⟩ hf
    obtain ⟨hj1, -⟩:=List.getElem?_eq_some_iff.1 hj
    simp at hi1 hj1
    omega
  unfold putE
  rw [if_neg (spot_no hf)]
  rcases mstep_cases nn kk s.c s.er (nums n) with ⟨a1,a2⟩ | ⟨a1,r,a2,a3,a4⟩ | ⟨a1,a2,a3,a4⟩
  · rw [a2,if_neg a1]
    exact ⟨h0,h1,h2,h3,h4⟩
  · rw [a3,if_neg a2]
    exact ⟨h0,h1,by dsimp only; omega,h3,h4⟩
  rw [a2,if_pos rfl]
  refine ⟨by dsimp only; omega,by dsimp only; omega,by dsimp only; omega,?_,hU⟩
  dsimp only
  rw [List.length_append,List.length_singleton]
  omega
theorem rmd_ro {w w1 w' : World} {e : Ending} {ra rm : Nat} {nn kk : Int} {s : St} {R C : Nat→Prop} {nv : Value} {n : Nd} (hG : RG w ra rm nn kk s R) (hrm : ¬ RFF ra nv C rm) (hF : ∀ b,RFF ra nv C b→R b) (k : Below w.heap.size w w1) (h : RMd w1 w' e ra rm nn kk s C nv w.heap.size 2097152 n) : RO w w' e ra rm nn kk R (putE nn kk s n):=by
  obtain ⟨rfl,C',nv',X',g1,g2,g3,g4⟩:=h
  obtain ⟨i1,i2,i3,i4,i5⟩:=putE_inv (nn:=nn) (kk:=kk) n hG.c0 hG.cn hG.e0 hG.ln hG.uq
  have hl:=hG.mb.lt
  refine ⟨rfl,RFF ra nv' C',⟨⟨C',nv',X',g1,fun hf => (g3 rm hf).elim hrm fun h => by omega,fun _ hb => hb⟩,g2,i1,i2,hG.n2,hG.k0,i3,i4,i5,fun b hb => g1.fl hb⟩,fun b hb => (g3 b hb).imp (hF b) id,?_⟩
  exact (butF_below (F:=fun b => b = rm ∨ R b) k).trans g4 fun b _ hb => hb.imp id (hF b)

theorem rbind_n {w : World} {ra rm : Nat} {nn kk : Int} {s : St} {R : Nat→Prop} {kd v kid : Int} (hG : RG w ra rm nn kk s R) (hv : I64 v) (hkid : I64 kid) :
    Calls Tryz.prog 16 #[.pointer (some ⟨ra,0,none⟩),.int .i64 kd,.int .i64 v,.int .i64 kid] w fun e w' => RO w w' e ra rm nn kk R (actB nn kk s kd v kid):=by
  obtain ⟨C,nv,X,hA,hrm,hF⟩:=hG.ar
  by_cases hb : kd = 7 ∨ kd = 8
  · have hh:=has_n hA kid
    by_cases hl : kid < 0 ∨ (s.L.length : Int)≤kid
    · rw [show lck s.L.length kid = true from decide_eq_true hl] at hh
      have hfin:=hide (ro_now hG (Below.refl _ _) 0 80)
      rw [show (s,(0 : Int),(80 : Int)) = actB nn kk s kd v kid from by unfold actB; rw [if_neg (fun h => h hb),if_pos hl]] at hfin
      replace hh:=hide hh
      rcases hb with rfl | rfl <;>
        (go_enter Tryz.func16,Tryz.ntmps16
         go_wp2_with (go_at_call 28; refine hh.out.mono ?_; rintro e w1 ⟨rfl,rfl⟩)
         refine bodyPost_ret (results_tmp2 rfl _ _ _) rfl ?_
         exact hfin.out)
    rw [show lck s.L.length kid = false from decide_eq_false hl] at hh
    replace hh:=hide hh
    have ka:=below_alloc w (.cells #[.int .i64 kid] 3)
    have hcell : (w.alloc (.cells #[.int .i64 kid] 3)).cell? ⟨w.heap.size,0,none⟩ = some (.int .i64 kid):=cell_of_row _ w.heap.size 0 _ _ (0,0) (heap_alloc_new w _)
    have hI : IL (w.alloc (.cells #[.int .i64 kid] 3)) (some ⟨w.heap.size,0,none⟩) 1 [kid]:=⟨rfl,.inr ⟨w.heap.size,0,rfl,by simp,fun i hi => by
      obtain rfl : i = 0:=by simp at hi; omega
      exact ⟨hcell,hkid⟩⟩⟩
    have hnc : NC (fun b => w.heap.size≤b∧b < (w.alloc (.cells #[.int .i64 kid] 3)).heap.size) (w.alloc (.cells #[.int .i64 kid] 3)) ⟨kd,false,none,0,0,none,0,0,false,none,0,0,v,some ⟨w.heap.size,0,none⟩,1,1⟩ ⟨kd,0,[],0,v,[kid]⟩ 2097152 :=
      ⟨rfl,(by unfold I64; dsimp only; omega),zn_zero _,(fun _ _ e => by cases e),by simp,⟨rfl,.inl rfl⟩,by simp,zn_zero _,(fun _ _ e => by cases e),by simp,rfl,hv,hI,(fun b off e _ => by cases e; simp),by simp⟩
    have hmade:=rmade_n (s0:=w.heap.size) (hA.below ka) (hG.mb.below ka) hnc hG.uq (by have:=hG.ln; have:=hG.cn; have:=hG.n2; omega) (Nat.le_refl _) hG.mb.lt ka.size (fun b hb => hA.fl hb) hrm (.inr (.inr ⟨by dsimp only; omega,rfl,rfl,rfl⟩)) hG.k0 hG.c0 hG.cn hG.n2 hG.e0
    simp only [NR.enc] at hmade
    have hfin : Hid (∀ e w',RMd (w.alloc (.cells #[.int .i64 kid] 3)) w' e ra rm nn kk s C nv w.heap.size 2097152 ⟨kd,0,[],0,v,[kid]⟩→RO w w' e ra rm nn kk R (actB nn kk s kd v kid)):=hide fun e w' h => by
      unfold actB
      rw [if_neg (fun h => h hb),if_neg hl]
      exact rmd_ro hG hrm hF ka h
    replace hmade:=hide hmade
    clear hcell hI hnc
    rcases hb with rfl | rfl <;>
      (go_enter Tryz.func16,Tryz.ntmps16
       go_wp2_with (go_at_call 28; refine hh.out.mono ?_; rintro e w1 ⟨rfl,rfl⟩)
       refine hmade.out.mono ?_
       rintro e w3 hM
       have hf:=hide (hfin.out e w3 hM)
       obtain ⟨rfl, -⟩:=hM
       clear hmade hfin
       go_wp2
       refine bodyPost_ret (results_tmp2 rfl _ _ _) rfl ?_
       exact hf.out)
  have hfin:=hide (ro_now hG (Below.refl _ _) 0 1)
  rw [show (s,(0 : Int),(1 : Int)) = actB nn kk s kd v kid from by unfold actB; rw [if_pos hb]] at hfin
  have hk3 : (kd != 7) = true:=bne_iff_ne.2 fun e => hb (.inl e)
  have hk4 : (kd != 8) = true:=bne_iff_ne.2 fun e => hb (.inr e)
  replace hb:=hide hb
  go_enter Tryz.func16,Tryz.ntmps16
  go_wp2_with fail
  refine bodyPost_ret (results_tmp2 rfl _ _ _) rfl ?_
  exact hfin.out
end Nt
namespace Nt

def cstR (k : Int) : NR:=⟨k,false,none,0,0,none,0,0,false,none,0,0,0,none,0,0⟩
theorem cst_nc {F : Nat→Prop} (w : World) (k : Int) (hk : I64 k) : NC F w (cstR k) (cst k) 2097152 :=
 ⟨rfl,hk,zn_zero _,(fun _ _ e => by cases e),Nat.zero_le _,⟨rfl,.inl rfl⟩,Nat.zero_le _,zn_zero _,(fun _ _ e => by cases e),Nat.zero_le _,rfl,(by unfold I64 cst; dsimp only; omega),⟨rfl,.inl rfl⟩,(fun _ _ e => by cases e),Nat.zero_le _⟩

theorem rnew8_n {w : World} {rm : Nat} {nn kk : Int} (hm : RBm w rm nn kk 0 0) (hn : nn≤2000) (hn0 : 0≤nn) (hkk : 0≤kk) :
  Calls Tryz.prog 9 #[.pointer (some ⟨rm,0,none⟩)] w fun e w' => ∃ ra R,e = .returned (.pointer (some ⟨ra,0,none⟩))∧RG w' ra rm nn kk st0 R∧(∀ b,R b→w.heap.size≤b)∧Below w.heap.size w w':=by
 go_enter Tryz.func9,Tryz.ntmps9
 go_wp2_with fail
 refine bodyPost_ret (results_tmp rfl _ _ _) rfl ?_
 have hk : Below w.heap.size w ((w.alloc (.cells #[.int .i64 0,.bool false,.slice none 0 0,.slice none 0 0,.bool false,.slice none 0 0,.int .i64 0,.slice none 0 0,.int .i64 1,.bool false,.slice none 0 0,.slice none 0 0,.bool false,.slice none 0 0,.int .i64 0,.slice none 0 0] 65)).alloc (.cells #[.slice (some ⟨w.heap.size,0,none⟩) 2 2,.pointer (some ⟨rm,0,none⟩)] 61)):=below_alloc' (below_alloc _ _) _
 have hrow0:=World.ownsRow_lit (base:=0) (e:=65) (size:=8) w #[.int .i64 0,.bool false,.slice none 0 0,.slice none 0 0,.bool false,.slice none 0 0,.int .i64 0,.slice none 0 0,.int .i64 1,.bool false,.slice none 0 0,.slice none 0 0,.bool false,.slice none 0 0,.int .i64 0,.slice none 0 0] 2 (by simp) (by unfold maxLen; decide) (by simp)
 have hrow : ((w.alloc (.cells #[.int .i64 0,.bool false,.slice none 0 0,.slice none 0 0,.bool false,.slice none 0 0,.int .i64 0,.slice none 0 0,.int .i64 1,.bool false,.slice none 0 0,.slice none 0 0,.bool false,.slice none 0 0,.int .i64 0,.slice none 0 0] 65)).alloc (.cells #[.slice (some ⟨w.heap.size,0,none⟩) 2 2,.pointer (some ⟨rm,0,none⟩)] 61)).ownsRow 0 65 8 (.slice (some ⟨w.heap.size,0,none⟩) 2 2) 2 ([cstR 0,cstR 1].flatMap NR.enc):=by
  have h:=hrow0.alloc (.cells #[.slice (some ⟨w.heap.size,0,none⟩) 2 2,.pointer (some ⟨rm,0,none⟩)] 61)
  simpa [NR.enc,cstR] using h
 have hblk : ((w.alloc (.cells #[.int .i64 0,.bool false,.slice none 0 0,.slice none 0 0,.bool false,.slice none 0 0,.int .i64 0,.slice none 0 0,.int .i64 1,.bool false,.slice none 0 0,.slice none 0 0,.bool false,.slice none 0 0,.int .i64 0,.slice none 0 0] 65)).alloc (.cells #[.slice (some ⟨w.heap.size,0,none⟩) 2 2,.pointer (some ⟨rm,0,none⟩)] 61)).heap[w.heap.size + 1]? = some (.cells #[.slice (some ⟨w.heap.size,0,none⟩) 2 2,.pointer (some ⟨rm,0,none⟩)] 61 (0,0)):=by
  have:=heap_alloc_new (w.alloc (.cells #[.int .i64 0,.bool false,.slice none 0 0,.slice none 0 0,.bool false,.slice none 0 0,.int .i64 0,.slice none 0 0,.int .i64 1,.bool false,.slice none 0 0,.slice none 0 0,.bool false,.slice none 0 0,.int .i64 0,.slice none 0 0] 65)) (.cells #[.slice (some ⟨w.heap.size,0,none⟩) 2 2,.pointer (some ⟨rm,0,none⟩)] 61)
  simpa using this
 refine ⟨w.heap.size + 1,RFF (w.heap.size + 1) (.slice (some ⟨w.heap.size,0,none⟩) 2 2) (fun _ => False),rfl,?_,?_,hk⟩
 ·have hRA : RA ((w.alloc (.cells #[.int .i64 0,.bool false,.slice none 0 0,.slice none 0 0,.bool false,.slice none 0 0,.int .i64 0,.slice none 0 0,.int .i64 1,.bool false,.slice none 0 0,.slice none 0 0,.bool false,.slice none 0 0,.int .i64 0,.slice none 0 0] 65)).alloc (.cells #[.slice (some ⟨w.heap.size,0,none⟩) 2 2,.pointer (some ⟨rm,0,none⟩)] 61)) (w.heap.size + 1) rm st0.L (fun _ => False) 2097152 (.slice (some ⟨w.heap.size,0,none⟩) 2 2) [cstR 0,cstR 1]:=by
   refine ⟨hblk,rfl,hrow,fun i hi => ?_,fun _ h => h.elim,fun h => h,fun _ _ h => h⟩
   match i,hi with
   | 0,_ => exact cst_nc _ 0 (by unfold I64; omega)
   | 1,_ => exact cst_nc _ 1 (by unfold I64; omega)
  have hl:=hm.lt
  refine ⟨⟨_,_,_,hRA,?_,fun _ h => h⟩,hm.below hk,Int.le_refl _,hn0,hn,hkk,Int.le_refl _,by decide,st0_uq,fun b hb => hRA.fl hb⟩
  rintro (h | h | h)
  ·omega
  ·have e:=Option.some.inj h
   dsimp only at e
   omega
  exact h
 rintro b (h | h | h)
 ·omega
 ·have e:=Option.some.inj h
  dsimp only at e
  omega
 exact h.elim
end Nt
namespace Nt

theorem rrelease_n {w : World} {ra rm : Nat} {nn kk : Int} {s : St} {R : Nat→Prop} {n : Int} (hG : RG w ra rm nn kk s R) :
  Calls Tryz.prog 18 #[.pointer (some ⟨ra,0,none⟩),.int .i64 n] w fun e w' => e = .returned (.int .i64 (actR s n).2)∧∃ R',RG w' ra rm nn kk (actR s n).1 R'∧(∀ b,R' b→R b ∨ w.heap.size≤b)∧ButF (fun b => b = rm ∨ R b) w w':=by
 obtain ⟨C,nv,X,hA,hrm,hF⟩:=hG.ar
 have hln:=hG.ln
 have hcn:=hG.cn
 have hn2:=hG.n2
 obtain ⟨av,cv,rfl⟩:=hA.form
 have u0:=hA.c0
 by_cases hb : n < 2 ∨ (s.L.length : Int) < n
 ·have hfin : Hid (actR s n = (s,1)):=hide (by unfold actR; rw [if_pos hb])
  have hend : Hid (∃ R',RG w ra rm nn kk s R'∧(∀ b,R' b→R b ∨ w.heap.size≤b)∧ButF (fun b => b = rm ∨ R b) w w):=hide ⟨R,hG,fun _ h => .inl h,butF_below (Below.refl _ _)⟩
  rw [hfin.out]
  by_cases h1 : n < 2
  ·go_enter Tryz.func18,Tryz.ntmps18
   go_wp2_with fail
   go_ret
   exact ⟨rfl,hend.out⟩
  have h2 : (s.L.length : Int) < n:=hb.resolve_left h1
  go_enter Tryz.func18,Tryz.ntmps18
  go_wp2_with fail
  go_ret
  exact ⟨rfl,hend.out⟩
 obtain ⟨m,rfl⟩ : ∃ m : Nat,n = m:=⟨n.toNat,by omega⟩
 have h1 : ¬ (m : Int) < 2:=fun e => hb (.inl e)
 have h2 : ¬ (s.L.length : Int) < m:=fun e => hb (.inr e)
 have hfin : Hid (actR s m = (⟨s.L.take m,s.c,s.er⟩,0)):=hide (by unfold actR; rw [if_neg hb]; simp)
 rw [hfin.out]
 clear hb hfin
 obtain ⟨g,cap,hsl,hgl, -⟩:=hA.cell (i:=0) o_m
 injection hsl with ea eb ec
 subst ea ec
 obtain ⟨i0,hi,iz0,iz1,iz2⟩:=info_parts infoN
 have hXl:=hA.len
 have hcv : s.L.length≤cv:=by
  rcases hA.row.2 with ⟨_,h0⟩ | ⟨g',cap',cur,e1,_,e3,k1,k2,k3,k4⟩
  ·omega
  injection e1 with e1 e2 e4
  omega
 have hmc : m≤cv:=by omega
 have hys : ((X.take m).flatMap NR.enc).length = m * 8:=by
  rw [flat_take,List.length_take,hA.row.1]
  omega
 have hcells : ∀ j u,((X.take m).flatMap NR.enc)[j]? = some u→w.cell? ((⟨g,0,none⟩ : Addr).add j) = some u:=by
  intro j u hj
  rcases hA.row.2 with ⟨_,h0⟩ | ⟨g',cap',cur,e1,_,e3,k1,k2,k3,k4⟩
  ·omega
  injection e1 with e1 e2 e4
  injection e1 with e1
  injection e1 with e1 e5
  subst e1
  rw [Addr.add_lit,Nat.zero_add,cell_of_row w _ j _ _ (0,0) e3]
  rw [flat_take,← k4,List.getElem?_take] at hj
  split at hj
  ·rw [List.getElem?_take] at hj
   split at hj
   ·simpa using hj
   cases hj
  cases hj
 have hone : ∀ u ∈ (X.take m).flatMap NR.enc,u.oneCell' = true:=by
  intro u hu
  obtain ⟨x, -,hx⟩:=List.mem_flatMap.1 hu
  exact enc_one x u hx
 replace hys:=hide hys
 replace hcells:=hide hcells
 replace hone:=hide hone
 go_enter Tryz.func18,Tryz.ntmps18
 go_wp2_with (at_builtin; refine wpList_append_own_at _ rfl _ _ 59 rfl w.heap.size 65 i0 _ 8 128 Tryz.underlying59 hi iz0 iz1 iz2 rfl (by decide) _ _ _ rfl (World.ownsRow_nil w w.heap.size 65 8) ⟨g,0,none⟩ m cv ((X.take m).flatMap NR.enc) rfl hys.out hcells.out hone.out (by unfold maxLen; omega) o_m (Nat.le_refl _) ?_; intro v' w4 hown' hgrow hnil hat'; rw [Nat.zero_add,List.nil_append] at hown'; obtain ⟨gv,kv,rfl⟩:=Joins.ownsRow_form hown' o_m; have hb4:=(hgrow.block ra hA.pal (fun e => by cases e)).trans hA.blk; have f0:=cell_of_row _ ra 0 _ _ (0,0) hb4; have f1:=frozen_of_row w4 ra 0 _ _ hb4)
 go_ret
 have hgv:=(World.ownsRow.lt hown' gv rfl).1
 have hoth : ∀ b,b < w.heap.size→b ≠ ra→(w4.setCell ⟨ra,0,none⟩ (.slice (some ⟨gv,0,none⟩) m kv)).heap[b]? = w.heap[b]?:=fun b hb h2 => by
  rw [heap_setCell_other _ _ _ _ h2]
  exact hgrow.block b hb (fun e => by cases e)
 have hsz : w.heap.size≤(w4.setCell ⟨ra,0,none⟩ (.slice (some ⟨gv,0,none⟩) m kv)).heap.size:=by
  have:=hgrow.size
  simpa [World.setCell] using this
 have hlt : (s.L.take m).length = m:=by rw [List.length_take]; omega
 have hra:=hA.pal
 have hRA : RA (w4.setCell ⟨ra,0,none⟩ (.slice (some ⟨gv,0,none⟩) m kv)) ra rm (s.L.take m) C 2097152 (.slice (some ⟨gv,0,none⟩) m kv) (X.take m):=by
  refine ⟨heap_setCell_same w4 ra 0 _ _ _ hb4,by rw [List.length_take,List.length_take,hXl],?_,fun i hi => ?_,fun b hb => Nat.lt_of_lt_of_le (hA.cl b hb) hsz,hA.ca,fun g' e hb => ?_⟩
  ·rw [hlt]
   have h5:=ownsRow_setCell_other (a:=⟨ra,0,none⟩) hown' (fun e => by have e:=Option.some.inj e; dsimp only at e; omega) (.slice (some ⟨gv,0,none⟩) m kv)
   exact ⟨h5.1,h5.2.imp id fun ⟨g1,cap1,cur1,e1,_,r1⟩ => ⟨g1,cap1,cur1,e1,Nat.zero_le _,r1⟩⟩
  ·rw [hlt] at hi
   rw [List.getElem_take,List.getElem_take]
   exact (hA.nodes i o_m).move hsz (fun b hb hl => hoth b hl (fun e => hA.ca (e ▸ hb))) (fun _ h _ => h)
  have e:=Option.some.inj e
  dsimp only at e
  have:=hA.cl g' hb
  omega
 have hsub : ∀ b,RFF ra (.slice (some ⟨gv,0,none⟩) m kv) C b→R b ∨ w.heap.size≤b:=by
  rintro b (h | h | h)
  ·exact .inl (hF b (.inl h))
  ·have e:=Option.some.inj h
   dsimp only at e
   exact .inr o_m
  exact .inl (hF b (.inr (.inr h)))
 have hml:=hG.mb.lt
 refine ⟨rfl,RFF ra (.slice (some ⟨gv,0,none⟩) m kv) C,⟨⟨C,_,_,hRA,?_,fun _ h => h⟩,(hoth rm hml (fun e => hrm (.inl e))).trans hG.mb,hG.c0,hG.cn,hG.n2,hG.k0,hG.e0,by dsimp only; rw [hlt]; omega,?_,fun b hb => hRA.fl hb⟩,hsub,?_⟩
 ·rintro (h | h | h)
  ·exact hrm (.inl h)
  ·have e:=Option.some.inj h
   dsimp only at e
   omega
  exact hrm (.inr (.inr h))
 ·intro i j x hx hy
  dsimp only at hx hy
  rw [List.getElem?_take] at hx hy
  split at hx
  ·split at hy
   ·exact hG.uq i j x hx hy
   cases hy
  cases hx
 exact ⟨hgrow.os,hgrow.tape,hgrow.output,hsz,fun b hb hn => hoth b hb (fun e => hn (.inr (hF b (.inl e))))⟩
end Nt
namespace Nt

theorem infoI8 : (Tryz.prog.info? 3).map (fun i => (i.zero,i.size,i.bytes)) = some (some (.int .i64 0),1,8):=by kernel_rfl
theorem szI : (Tryz.prog.info? 3).map (·.size) = some 1:=by kernel_rfl
theorem put_take {L3 : List Value} {l : List Int} {n : Int} {t : Nat} (htk : L3.take (l.length + 1) = l.map (Value.int .i64) ++ [Value.int .i64 0]) (ht : t≤l.length) : ((L3.take (t + 1) ++ ((l.drop t).map (Value.int .i64) ++ L3.drop (t + 1 + (l.length - t)))).set t (Value.int .i64 n)).take (l.length + 1) = (l.take t ++ n :: l.drop t).map (Value.int .i64):=by
  have hlen : l.length + 1≤L3.length:=by
    have:=congrArg List.length htk
    simp at this
    omega
  have hA : L3.take (t + 1) = (l.map (Value.int .i64) ++ [Value.int .i64 0]).take (t + 1):=by
    rw [← htk,List.take_take]
    congr 1
    omega
  have hA2 : (L3.take (t + 1)).take t = (l.take t).map (Value.int .i64):=by
    rw [hA,List.take_take,show min t (t + 1) = t by omega,List.take_append_of_le_length (by simpa using ht),List.map_take]
  have hl1 : (L3.take (t + 1)).length = t + 1:=by rw [List.length_take]; omega
  rw [List.set_append_left _ _ o_m,List.set_eq_take_append_cons_drop,if_pos o_m,hA2,List.drop_of_length_le o_m,← List.append_assoc,List.take_append_of_le_length (by simp; omega),List.take_of_length_le (by simp; omega)]
  simp
theorem one_new (w : World) : ∀ j u,[Value.int .i64 0][j]? = some u→(w.alloc (.cells #[.int .i64 0] 3)).cell? ((⟨w.heap.size,0,none⟩ : Addr).add j) = some u:=by
  intro j u hj
  rw [Addr.add_lit,Nat.zero_add]
  exact (cell_of_row _ w.heap.size j _ _ (0,0) (heap_alloc_new w _)).trans (by simpa using hj)
theorem put_end {L3 : List Value} {l : List Int} {n : Int} (htk : L3.take (l.length + 1) = l.map (Value.int .i64) ++ [Value.int .i64 0]) : (L3.set l.length (Value.int .i64 n)).take (l.length + 1) = (l.take l.length ++ n :: l.drop l.length).map (Value.int .i64):=by
  have h:=put_take (n:=n) (t:=l.length) htk (Nat.le_refl _)
  simpa using h
def PU (w w' : World) (e : Ending) (base : Nat) (l : List Int) : Prop :=
  ∃ v',e = .returned v'∧w'.ownsRow base 3 1 v' l.length (l.map (Value.int .i64))∧Below base w w'
theorem rput8_n {w : World} {base : Nat} {v : Value} {l : List Int} {n : Int} (h : w.ownsRow base 3 1 v l.length (l.map (Value.int .i64))) (hm : l.length≤1048576) (hb : base≤w.heap.size) :
    Calls Tryz.prog 44 #[v,.int .i64 n] w fun e w' => PU w w' e base (insI l n):=by
  have hform : ∃ a c,v = .slice a l.length c:=by
    rcases Joins.ownsRow_forms h with ⟨h1,h2⟩ | ⟨g,cap,h1⟩
    · exact ⟨none,0,by rw [h1,h2]⟩
    exact ⟨_,cap,h1⟩
  obtain ⟨av,cv,rfl⟩:=hform
  have hcell : Hid (∀ t (ht : t < l.length),∃ g,av = some ⟨g,0,none⟩∧w.cell? ⟨g,t,none⟩ = some (.int .i64 l[t])):=hide (fun t ht => by
    rcases h.2 with ⟨_,h0⟩ | ⟨g,cap,cur,e1,_,e3,k1,k2,k3,k4⟩
    · omega
    injection e1 with e1 e2 e4
    refine ⟨g,e1,?_⟩
    rw [cell_of_row w g t _ _ (0,0) e3]
    have e : (cur.toList.take (l.length * 1))[t]? = some (.int .i64 l[t]):=by rw [k4,List.getElem?_map,List.getElem?_eq_getElem ht]; rfl
    rw [List.getElem?_take,if_pos o_m] at e
    simpa using e)
  have hrow:=hide h
  clear h
  go_enter Tryz.func44,Tryz.ntmps44
  go_wp2_with fail
  obtain ⟨i0,hi,iz0,iz1,iz2⟩:=info_parts infoI8
  go_loopw [5] (fun i wr => ∃ t : Nat,t≤l.length∧i = .int .i64 t∧Hid (∀ j (h : j < l.length),j < t→l[j] < n)∧w = wr) (fun i _ => l.length - (intOf i).toNat)
  case atStart => exact ⟨0,Nat.zero_le _,rfl,hide (fun j _ hj => absurd hj o_m),rfl⟩
  case round =>
    obtain ⟨t,ht,rfl,hlo,rfl⟩:=hrel
    by_cases htl : t < l.length
    · obtain ⟨g,rfl,e0⟩:=hcell.out t htl
      have hst : Hid (l[t] < n→∀ j (h : j < l.length),j < t + 1→l[j] < n):=hide (fun h j hj hjt => by
        by_cases e : j < t
        · exact hlo.out j hj e
        obtain rfl : j = t:=by omega
        exact h)
      have hat0:=hide (insI_at l n t ht hlo.out)
      have hlt? : Hid (l[t]? = some l[t]):=hide (List.getElem?_eq_getElem htl)
      have hle : Hid (n≤l[t]→insI l n = if l[t]? = some n then l else l.take t ++ n :: l.drop t):=hide (fun h => hat0.out (fun _ => h))
      clear hat0
      generalize l[t] = lt at *
      by_cases h1 : lt < n
      · go_wp2_with fail
        exact ⟨⟨t + 1,by omega,by go_num,hide (hst.out h1),by trivial⟩,by simp [intOf]; omega⟩
      by_cases h2 : lt = n
      · subst h2
        have hfin : Hid (insI l lt = l):=hide (by rw [hle.out (Int.le_refl _),if_pos hlt?.out])
        go_wp2_with fail
        go_ret
        unfold PU
        rw [hfin.out]
        exact ⟨_,rfl,hrow.out,Below.refl _ _⟩
      have hfin : Hid (insI l n = l.take t ++ n :: l.drop t):=hide (by rw [hle.out o_m,if_neg (by rw [hlt?.out]; intro e; exact h2 (by injection e))])
      have h3 : (lt == n) = false:=beq_eq_false_iff_ne.2 h2
      clear hle hlt? hst
      go_wp2_with (at_builtin; refine wpList_append_own_at _ rfl _ _ 43 rfl base 3 i0 _ 1 8 Tryz.underlying43 hi iz0 iz1 iz2 rfl (by decide) _ _ _ rfl (hrow.out.alloc _) ⟨w.heap.size,0,none⟩ 1 1 [.int .i64 0] rfl rfl (one_new w) (by intro u hu; rw [List.mem_singleton.1 hu]; rfl) (by unfold maxLen; omega) o_m (by simp; omega) ?_; intro v' w4 hown' hgrow hnil hat'; obtain ⟨gv,kv,rfl⟩:=Joins.ownsRow_form hown' o_m)
      obtain ⟨hlen',hown2⟩:=hown'
      rcases hown2 with ⟨h0, -⟩ | ⟨g3,cap3,cur,e1,hg3,e3,k1,k2,k3,k4⟩
      · cases h0
      injection e1 with e1 e2 e4
      injection e1 with e1
      injection e1 with e1 e5
      subst e1 e4
      have hkw : Hid (Below base w w4):=hide (((below_alloc w (.cells #[.int .i64 0] 3)).mono hb).grown hgrow (by simp; omega) (fun k e => (World.ownsRow.lt hrow.out k e).1))
      clear hnil hat' hgrow
      obtain ⟨cs,hcs⟩ : ∃ cs,cs = (l.drop t).map (Value.int .i64):=⟨_,rfl⟩
      obtain ⟨L3,hL3⟩ : ∃ L3,L3 = cur.toList:=⟨_,rfl⟩
      have e3' : Hid (w4.heap[gv]? = some (.cells L3.toArray 3 (0,0))):=hide (by rw [hL3]; simpa using e3)
      have hcl : cs.length = l.length - t:=by rw [hcs]; simp
      have hLl : L3.length = kv:=by rw [hL3]; simpa using k3
      have htk : L3.take (l.length + 1) = l.map (Value.int .i64) ++ [.int .i64 0]:=by rw [hL3]; simpa using k4
      have hsrc : Hid (∀ j v,cs[j]? = some v→w4.drew.cell? ((⟨gv,t,none⟩ : Addr).add j) = some v):=hide (fun j v hj => by
        rw [Addr.add_lit]
        refine (cell_of_row w4.drew gv (t + j) _ _ (0,0) e3'.out).trans ?_
        rw [hcs,List.getElem?_map,List.getElem?_drop] at hj
        have h5 : (L3.take (l.length + 1))[t + j]? = some v:=by
          rw [htk,List.getElem?_append_left (by simp; exact (List.getElem?_eq_some_iff.1 (Option.map_eq_some_iff.1 hj).choose_spec.1).1),List.getElem?_map]
          exact hj
        rw [List.getElem?_take] at h5
        split at h5
        · simpa using h5
        cases h5)
      have hone : Hid (∀ v ∈ cs,v.oneCell' = true):=hide (fun v hv => by rw [hcs] at hv; obtain ⟨z, -,rfl⟩:=List.mem_map.1 hv; rfl)
      replace hcs:=hide hcs
      replace htk:=hide htk
      have b1 : (0 : Int)≤(t : Int) + 1∧(t : Int) + 1≤(l.length : Int) + 1∧(l.length : Int) + 1≤kv∧(t : Int)≤(l.length : Int) + 1:=by omega
      obtain ⟨b1,b2,b3,b4⟩:=b1
      have b5 : IntKind.i64.wrap ((t : Int) + 1) = (t : Int) + 1:=by simp [IntKind.wrap,IntKind.bits,IntKind.signed]; omega
      clear hL3 k3 k4 e3 hlen' e2 e5
      have hcopy:=run_copy_row (P:=Tryz.prog) w4.drew 43 43 3 3 gv (t + 1) (l.length - t) (kv - (t + 1)) ⟨gv,t,none⟩ (l.length + 1 - t) (kv - t) L3.toArray 3 cs Tryz.underlying43 szI e3'.out (by show _ = min _ _; omega) hsrc.out (by simp; omega) hone.out
      have hg5 : Hid ((w4.drew.setRow gv (L3.take (t + 1) ++ (cs ++ L3.drop (t + 1 + cs.length))).toArray).heap[gv]? = some (.cells (L3.take (t + 1) ++ (cs ++ L3.drop (t + 1 + cs.length))).toArray 3 (0,0))):=hide (setRow_heap w4.drew gv _ _ _ _ e3'.out)
      have hb5 : Hid (Below base w (w4.drew.setRow gv (L3.take (t + 1) ++ (cs ++ L3.drop (t + 1 + cs.length))).toArray)):=hide (below_setRow (hkw.out.trans (show Below base w4 w4.drew from ⟨rfl,rfl,rfl,Nat.le_refl _,fun _ _ => rfl⟩)) hg3 _)
      generalize hW : w4.drew.setRow gv (L3.take (t + 1) ++ (cs ++ L3.drop (t + 1 + cs.length))).toArray = w5 at *
      simp only [List.append_assoc] at hcopy
      rw [hW] at hcopy
      replace hW:=hide hW
      go_region_held3 (fun _ => True) (trivial) (fail)
      have hZl : Hid ((L3.take (t + 1) ++ (cs ++ L3.drop (t + 1 + cs.length))).length = kv):=hide (by simp; omega)
      have f0 : ∃ u,w5.cell? ⟨gv,t,none⟩ = some u:=⟨_,(cell_of_row w5 gv t _ _ (0,0) hg5.out).trans (by rw [List.getElem?_toArray,List.getElem?_eq_getElem (by rw [hZl.out]; omega)])⟩
      obtain ⟨u0,f0⟩:=f0
      have f1:=frozen_of_row w5 gv t _ _ hg5.out
      have b6 : (t : Int) < (l.length : Int) + 1:=by omega
      have hfin2:=hide (put_take (n:=n) htk.out ht)
      clear hcopy hsrc hone e3'
      go_wp2_with fail
      go_ret
      have hs5 : (w5.setCell ⟨gv,t,none⟩ (.int .i64 n)).heap[gv]? = some (.cells ((L3.take (t + 1) ++ (cs ++ L3.drop (t + 1 + cs.length))).set t (.int .i64 n)).toArray 3 (0,0)):=(heap_setCell_same w5 gv t _ _ _ hg5.out).trans (by simp)
      refine ⟨_,rfl,?_,hb5.out.setCell hg3 _⟩
      rw [hfin.out]
      have hl2 : (l.take t ++ n :: l.drop t).length = l.length + 1:=by simp; omega
      rw [hl2]
      refine ⟨by rw [List.length_map,hl2]; omega,.inr ⟨gv,kv,_,rfl,hg3,hs5,k1,k2,?_,?_⟩⟩
      · rw [List.size_toArray,List.length_set,hZl.out]; omega
      rw [List.toList_toArray,Nat.mul_one,hcl,hcs.out]; exact hfin2.out
    obtain rfl : t = l.length:=by omega
    have hfin : Hid (insI l n = l.take l.length ++ n :: l.drop l.length):=hide (by rw [insI_at l n l.length ht hlo.out (fun h => absurd h o_m),if_neg (by simp)])
    go_wp2_with (at_builtin; refine wpList_append_own_at _ rfl _ _ 43 rfl base 3 i0 _ 1 8 Tryz.underlying43 hi iz0 iz1 iz2 rfl (by decide) _ _ _ rfl (hrow.out.alloc _) ⟨w.heap.size,0,none⟩ 1 1 [.int .i64 0] rfl rfl (one_new w) (by intro u hu; rw [List.mem_singleton.1 hu]; rfl) (by unfold maxLen; omega) o_m (by simp; omega) ?_; intro v' w4 hown' hgrow hnil hat'; obtain ⟨gv,kv,rfl⟩:=Joins.ownsRow_form hown' o_m)
    obtain ⟨hlen',hown2⟩:=hown'
    rcases hown2 with ⟨h0, -⟩ | ⟨g3,cap3,cur,e1,hg3,e3,k1,k2,k3,k4⟩
    · cases h0
    injection e1 with e1 e2 e4
    injection e1 with e1
    injection e1 with e1 e5
    subst e1 e4
    have hkw : Hid (Below base w w4):=hide (((below_alloc w (.cells #[.int .i64 0] 3)).mono hb).grown hgrow (by simp; omega) (fun k e => (World.ownsRow.lt hrow.out k e).1))
    clear hnil hat' hgrow
    obtain ⟨L3,hL3⟩ : ∃ L3,L3 = cur.toList:=⟨_,rfl⟩
    have e3' : Hid (w4.drew.heap[gv]? = some (.cells L3.toArray 3 (0,0))):=hide (by show w4.heap[gv]? = _; rw [hL3]; simpa using e3)
    have hLl : L3.length = kv:=by rw [hL3]; simpa using k3
    have htk : L3.take (l.length + 1) = l.map (Value.int .i64) ++ [.int .i64 0]:=by rw [hL3]; simpa using k4
    have hb5 : Hid (Below base w w4.drew):=hide (hkw.out.trans (show Below base w4 w4.drew from ⟨rfl,rfl,rfl,Nat.le_refl _,fun _ _ => rfl⟩))
    have b1 : (0 : Int)≤(l.length : Int) + 1∧(l.length : Int) + 1≤(l.length : Int) + 1∧(l.length : Int) + 1≤kv∧(l.length : Int)≤(l.length : Int) + 1:=by omega
    obtain ⟨b1,b2,b3,b4⟩:=b1
    rcases Nat.lt_or_eq_of_le k1 with hkv | rfl <;>
      (have hcopy:=fun dp sp dcap scap => run_copy_none (P:=Tryz.prog) w4.drew 43 43 3 3 dp sp 0 dcap 1 scap Tryz.underlying43 szI rfl
       have hfin2:=hide (put_end (n:=n) htk)
       replace htk:=hide htk
       have b5 : IntKind.i64.wrap ((l.length : Int) + 1) = (l.length : Int) + 1:=by simp [IntKind.wrap,IntKind.bits,IntKind.signed]; omega
       clear hL3 k3 k4 e3 hlen' e2 e5
       go_region_held3 (fun _ => True) (trivial) (fail)
       generalize w4.drew = w5 at *
       have f0 : ∃ u,w5.cell? ⟨gv,l.length,none⟩ = some u:=⟨_,(cell_of_row w5 gv l.length _ _ (0,0) e3'.out).trans (by rw [List.getElem?_toArray,List.getElem?_eq_getElem o_m])⟩
       obtain ⟨u0,f0⟩:=f0
       have f1:=frozen_of_row w5 gv l.length _ _ e3'.out
       have b6 : (l.length : Int) < (l.length : Int) + 1:=by omega
       clear hcopy
       go_wp2_with fail
       go_ret
       have hs5 : (w5.setCell ⟨gv,l.length,none⟩ (.int .i64 n)).heap[gv]? = some (.cells (L3.set l.length (.int .i64 n)).toArray 3 (0,0)):=(heap_setCell_same w5 gv l.length _ _ _ e3'.out).trans (by simp)
       refine ⟨_,rfl,?_,hb5.out.setCell hg3 _⟩
       rw [hfin.out]
       have hl2 : (l.take l.length ++ n :: l.drop l.length).length = l.length + 1:=by simp
       rw [hl2]
       refine ⟨by rw [List.length_map,hl2]; omega,.inr ⟨gv,_,_,rfl,hg3,hs5,k1,k2,?_,?_⟩⟩
       · rw [List.size_toArray,List.length_set,hLl]; omega
       rw [List.toList_toArray,Nat.mul_one]; exact hfin2.out)
end Nt
namespace Nt

theorem insI_len : ∀ (l : List Int) (n : Int),(insI l n).length≤l.length + 1
 | [],n => by simp [insI]
 | x :: l,n => by
  have h:=insI_len l n
  unfold insI
  split
  ·simp only [List.length_cons]; omega
  split <;> simp only [List.length_cons] <;> omega
theorem fold_len : ∀ (l a : List Int),(l.foldl insI a).length≤a.length + l.length
 | [],a => by simp
 | x :: l,a => by
  have h:=fold_len l (insI a x)
  have h2:=insI_len a x
  simp only [List.foldl_cons,List.length_cons]
  omega
theorem rjoin_n {w : World} {ra rm : Nat} {nn kk : Int} {s : St} {R : Nat→Prop} {kd : Int} {ka : Option Addr} {kc : Nat} {l : List Int} (hG : RG w ra rm nn kk s R) (hI : IL w ka l.length l) (hl : l.length≤1048576) :
  Calls Tryz.prog 14 #[.pointer (some ⟨ra,0,none⟩),.int .i64 kd,.slice ka l.length kc] w fun e w' => RO w w' e ra rm nn kk R (actJ nn kk s kd l):=by
 by_cases hk : kd = 5 ∨ kd = 6
 ·obtain ⟨C,nv,X,hA,hrm,hF⟩:=hG.ar
  have hcell : Hid (∀ t (ht : t < l.length),∃ b off,ka = some ⟨b,off,none⟩∧b < w.heap.size∧w.cell? ⟨b,off + t,none⟩ = some (.int .i64 l[t])):=hide (fun t ht => by
   rcases hI.2 with h0 | ⟨b,off,e,hb,h2⟩
   ·omega
   exact ⟨b,off,e,hb,(h2 t ht).1⟩)
  have hfl : ∀ t,(((l.take t).foldl insI []).length≤t):=fun t => by
   have h:=fold_len (l.take t) []
   simp only [List.length_nil,Nat.zero_add] at h
   exact Nat.le_trans h (by rw [List.length_take]; omega)
  have hbad : Hid (∀ t (ht : t < l.length),lck s.L.length l[t] = true→∀ w',Below w.heap.size w w'→RO w w' (.returned (.tuple #[.int .i64 0,.int .i64 80])) ra rm nn kk R (actJ nn kk s kd l)):=hide (fun t ht hl w' k => by
   have h:=ro_now hG k 0 80
   rwa [show (s,(0 : Int),(80 : Int)) = actJ nn kk s kd l from by unfold actJ; rw [if_neg (fun h => h hk),if_pos (List.any_eq_true.2 ⟨_,List.getElem_mem ht,hl⟩)]] at h)
  have hgood : Hid ((∀ j (h : j < l.length),lck s.L.length l[j] = false)→actJ nn kk s kd l = match ris l with
   | [] => (s,if kd = 5 then 1 else 0,0)
   | [x] => (s,x,0)
   | x :: y :: t => putE nn kk s ⟨kd,0,[],0,0,x :: y :: t⟩):=hide (fun h => by
   unfold actJ
   rw [if_neg (fun h => h hk),if_neg (fun e => by
    obtain ⟨z,hz,h1⟩:=List.any_eq_true.1 e
    obtain ⟨j,hj,rfl⟩:=List.mem_iff_getElem.1 hz
    rw [h j hj] at h1
    cases h1)]
   rcases ris l with _ | ⟨x,_ | ⟨y,t⟩⟩ <;> rfl)
  rcases hk with rfl | rfl
  ·go_enter Tryz.func14,Tryz.ntmps14
   go_wp2_with fail
   go_loopw [8,9] (fun vv i wr => ∃ t : Nat,t≤l.length∧i = .int .i64 t∧Hid (∀ j (h : j < l.length),j < t→lck s.L.length l[j] = false)∧Hid (wr.ownsRow w.heap.size 3 1 vv ((l.take t).foldl insI []).length (((l.take t).foldl insI []).map (Value.int .i64)))∧Hid (Below w.heap.size w wr)) (fun _ i _ => l.length - (intOf i).toNat)
   case atStart => exact ⟨0,Nat.zero_le _,rfl,hide (fun j _ hj => absurd hj o_m),hide (World.ownsRow_nil w w.heap.size 3 1),hide (Below.refl _ _)⟩
   case round =>
    obtain ⟨t,ht,rfl,hno,hrow,kr⟩:=hrel
    by_cases htn : t < l.length
    ·obtain ⟨b,off,rfl,hbl,e0⟩:=hcell.out t htn
     replace e0:=(kr.out.cell (p:=⟨b,off + t,none⟩) hbl).trans e0
     have hh:=hide (has_n (hA.below kr.out) l[t])
     have hbd:=hide (hbad.out t htn)
     have hput:=hide (rput8_n (n:=l[t]) hrow.out (Nat.le_trans (hfl t) o_m) kr.out.size)
     have hstep : Hid ((l.take (t + 1)).foldl insI [] = insI ((l.take t).foldl insI []) l[t]):=hide (by rw [List.take_succ_eq_append_getElem htn,List.foldl_append]; rfl)
     have hnx : Hid (lck s.L.length l[t] = false→∀ j (h : j < l.length),j < t + 1→lck s.L.length l[j] = false):=hide (fun h j hj hjt => by
      by_cases e : j < t
      ·exact hno.out j hj e
      obtain rfl : j = t:=by omega
      exact h)
     generalize l[t] = lt at *
     by_cases hlk : lck s.L.length lt = true
     ·rw [hlk] at hh
      go_wp2_with (go_at_call 28; refine hh.out.mono ?_; rintro e w1 ⟨rfl,rfl⟩)
      refine bodyPost_ret (results_tmp2 rfl _ _ _) rfl ?_
      exact hbd.out hlk _ kr.out
     rw [Bool.not_eq_true] at hlk
     rw [hlk] at hh
     go_wp2_with (first | (go_at_call 28; refine hh.out.mono ?_; rintro e w1 ⟨rfl,rfl⟩) | (go_at_call 44; refine hput.out.mono ?_; rintro e w2 ⟨v',rfl,hr2,hk2⟩))
     exact ⟨⟨t + 1,by omega,by go_num,hide (hnx.out hlk),hide (by rw [hstep.out]; exact hr2),hide (kr.out.trans hk2)⟩,by simp [intOf]; omega⟩
    obtain rfl : t = l.length:=by omega
    rw [List.take_length,fold_ris] at hrow
    have hact:=hide (hgood.out (fun j hj => hno.out j hj hj))
    have hri : ∀ x ∈ ris l,I64 x:=fun x hx => by
     obtain ⟨j,hj,rfl⟩:=List.mem_iff_getElem.1 (ris_mem hx)
     rcases hI.2 with h0 | ⟨b,off,e,hb,h2⟩
     ·omega
     exact (h2 j hj).2
    have hrl : (ris l).length≤1048576:=by rw [← fold_ris]; have:=fold_len l []; simp only [List.length_nil,Nat.zero_add] at this; omega
    clear hgood hbad hno hcell
    generalize ris l = q at *
    obtain ⟨av,cv,rfl,hIL,hNw⟩:=row_il hrow.out hri
    clear hrow
    rcases q with _ | ⟨x,_ | ⟨y,tl⟩⟩
    ·have hfin:=hide (ro_now hG kr.out 1 0)
     clear hIL hNw
     go_wp2_with fail
     refine bodyPost_ret (results_tmp2 rfl _ _ _) rfl ?_
     rw [hact.out]
     exact hfin.out
    ·have hfin:=hide (ro_now hG kr.out x 0)
     rcases hIL.2 with h0 | ⟨b,off,rfl,hb,h2⟩
     ·cases h0
     have e0:=(h2 0 (by simp)).1
     simp only [Nat.add_zero,List.getElem_cons_zero] at e0
     clear hIL hNw h2
     go_wp2_with fail
     refine bodyPost_ret (results_tmp2 rfl _ _ _) rfl ?_
     rw [hact.out]
     exact hfin.out
    have hfr : Hid (∀ e w',RMd wr w' e ra rm nn kk s C nv w.heap.size 2097152 ⟨5,0,[],0,0,x :: y :: tl⟩→RO w w' e ra rm nn kk R (actJ nn kk s 5 l)):=hide fun e w' h => by
     rw [hact.out]
     exact rmd_ro hG hrm hF kr.out h
    have hnc : NC (fun b => w.heap.size≤b∧b < wr.heap.size) wr ⟨5,false,none,0,0,none,0,0,false,none,0,0,0,av,(x :: y :: tl).length,cv⟩ ⟨5,0,[],0,0,x :: y :: tl⟩ 2097152 :=
     ⟨rfl,(by unfold I64; dsimp only; omega),zn_zero _,(fun _ _ e => by cases e),by simp,⟨rfl,.inl rfl⟩,by simp,zn_zero _,(fun _ _ e => by cases e),by simp,rfl,(by unfold I64; dsimp only; omega),hIL,(fun b off e h0 => ⟨hNw b off e h0,il_lt hIL e h0⟩),hrl⟩
    have hmade:=rmade_n (s0:=w.heap.size) (hA.below kr.out) (hG.mb.below kr.out) hnc hG.uq (by have:=hG.ln; have:=hG.cn; have:=hG.n2; omega) (Nat.le_refl _) hG.mb.lt kr.out.size (fun b hb => hA.fl hb) hrm (.inr (.inr ⟨by dsimp only; omega,rfl,rfl,rfl⟩)) hG.k0 hG.c0 hG.cn hG.n2 hG.e0
    simp only [NR.enc] at hmade
    replace hmade:=hide hmade
    have hlc : (x :: y :: tl).length = tl.length + 2:=rfl
    rw [hlc] at *
    clear hnc hIL hNw
    go_wp2_with fail
    refine hmade.out.mono ?_
    rintro e w3 hM
    have hf:=hide (hfr.out e w3 hM)
    obtain ⟨rfl, -⟩:=hM
    clear hmade hfr
    go_wp2
    refine bodyPost_ret (results_tmp2 rfl _ _ _) rfl ?_
    exact hf.out
  go_enter Tryz.func14,Tryz.ntmps14
  go_wp2_with fail
  go_loopw [8,9] (fun vv i wr => ∃ t : Nat,t≤l.length∧i = .int .i64 t∧Hid (∀ j (h : j < l.length),j < t→lck s.L.length l[j] = false)∧Hid (wr.ownsRow w.heap.size 3 1 vv ((l.take t).foldl insI []).length (((l.take t).foldl insI []).map (Value.int .i64)))∧Hid (Below w.heap.size w wr)) (fun _ i _ => l.length - (intOf i).toNat)
  case atStart => exact ⟨0,Nat.zero_le _,rfl,hide (fun j _ hj => absurd hj o_m),hide (World.ownsRow_nil w w.heap.size 3 1),hide (Below.refl _ _)⟩
  case round =>
   obtain ⟨t,ht,rfl,hno,hrow,kr⟩:=hrel
   by_cases htn : t < l.length
   ·obtain ⟨b,off,rfl,hbl,e0⟩:=hcell.out t htn
    replace e0:=(kr.out.cell (p:=⟨b,off + t,none⟩) hbl).trans e0
    have hh:=hide (has_n (hA.below kr.out) l[t])
    have hbd:=hide (hbad.out t htn)
    have hput:=hide (rput8_n (n:=l[t]) hrow.out (Nat.le_trans (hfl t) o_m) kr.out.size)
    have hstep : Hid ((l.take (t + 1)).foldl insI [] = insI ((l.take t).foldl insI []) l[t]):=hide (by rw [List.take_succ_eq_append_getElem htn,List.foldl_append]; rfl)
    have hnx : Hid (lck s.L.length l[t] = false→∀ j (h : j < l.length),j < t + 1→lck s.L.length l[j] = false):=hide (fun h j hj hjt => by
     by_cases e : j < t
     ·exact hno.out j hj e
     obtain rfl : j = t:=by omega
     exact h)
    generalize l[t] = lt at *
    by_cases hlk : lck s.L.length lt = true
    ·rw [hlk] at hh
     go_wp2_with (go_at_call 28; refine hh.out.mono ?_; rintro e w1 ⟨rfl,rfl⟩)
     refine bodyPost_ret (results_tmp2 rfl _ _ _) rfl ?_
     exact hbd.out hlk _ kr.out
    rw [Bool.not_eq_true] at hlk
    rw [hlk] at hh
    go_wp2_with (first | (go_at_call 28; refine hh.out.mono ?_; rintro e w1 ⟨rfl,rfl⟩) | (go_at_call 44; refine hput.out.mono ?_; rintro e w2 ⟨v',rfl,hr2,hk2⟩))
    exact ⟨⟨t + 1,by omega,by go_num,hide (hnx.out hlk),hide (by rw [hstep.out]; exact hr2),hide (kr.out.trans hk2)⟩,by simp [intOf]; omega⟩
   obtain rfl : t = l.length:=by omega
   rw [List.take_length,fold_ris] at hrow
   have hact:=hide (hgood.out (fun j hj => hno.out j hj hj))
   have hri : ∀ x ∈ ris l,I64 x:=fun x hx => by
    obtain ⟨j,hj,rfl⟩:=List.mem_iff_getElem.1 (ris_mem hx)
    rcases hI.2 with h0 | ⟨b,off,e,hb,h2⟩
    ·omega
    exact (h2 j hj).2
   have hrl : (ris l).length≤1048576:=by rw [← fold_ris]; have:=fold_len l []; simp only [List.length_nil,Nat.zero_add] at this; omega
   clear hgood hbad hno hcell
   generalize ris l = q at *
   obtain ⟨av,cv,rfl,hIL,hNw⟩:=row_il hrow.out hri
   clear hrow
   rcases q with _ | ⟨x,_ | ⟨y,tl⟩⟩
   ·have hfin:=hide (ro_now hG kr.out 0 0)
    clear hIL hNw
    go_wp2_with fail
    refine bodyPost_ret (results_tmp2 rfl _ _ _) rfl ?_
    rw [hact.out]
    exact hfin.out
   ·have hfin:=hide (ro_now hG kr.out x 0)
    rcases hIL.2 with h0 | ⟨b,off,rfl,hb,h2⟩
    ·cases h0
    have e0:=(h2 0 (by simp)).1
    simp only [Nat.add_zero,List.getElem_cons_zero] at e0
    clear hIL hNw h2
    go_wp2_with fail
    refine bodyPost_ret (results_tmp2 rfl _ _ _) rfl ?_
    rw [hact.out]
    exact hfin.out
   have hfr : Hid (∀ e w',RMd wr w' e ra rm nn kk s C nv w.heap.size 2097152 ⟨6,0,[],0,0,x :: y :: tl⟩→RO w w' e ra rm nn kk R (actJ nn kk s 6 l)):=hide fun e w' h => by
    rw [hact.out]
    exact rmd_ro hG hrm hF kr.out h
   have hnc : NC (fun b => w.heap.size≤b∧b < wr.heap.size) wr ⟨6,false,none,0,0,none,0,0,false,none,0,0,0,av,(x :: y :: tl).length,cv⟩ ⟨6,0,[],0,0,x :: y :: tl⟩ 2097152 :=
    ⟨rfl,(by unfold I64; dsimp only; omega),zn_zero _,(fun _ _ e => by cases e),by simp,⟨rfl,.inl rfl⟩,by simp,zn_zero _,(fun _ _ e => by cases e),by simp,rfl,(by unfold I64; dsimp only; omega),hIL,(fun b off e h0 => ⟨hNw b off e h0,il_lt hIL e h0⟩),hrl⟩
   have hmade:=rmade_n (s0:=w.heap.size) (hA.below kr.out) (hG.mb.below kr.out) hnc hG.uq (by have:=hG.ln; have:=hG.cn; have:=hG.n2; omega) (Nat.le_refl _) hG.mb.lt kr.out.size (fun b hb => hA.fl hb) hrm (.inr (.inr ⟨by dsimp only; omega,rfl,rfl,rfl⟩)) hG.k0 hG.c0 hG.cn hG.n2 hG.e0
   simp only [NR.enc] at hmade
   replace hmade:=hide hmade
   have hlc : (x :: y :: tl).length = tl.length + 2:=rfl
   rw [hlc] at *
   clear hnc hIL hNw
   go_wp2_with fail
   refine hmade.out.mono ?_
   rintro e w3 hM
   have hf:=hide (hfr.out e w3 hM)
   obtain ⟨rfl, -⟩:=hM
   clear hmade hfr
   go_wp2
   refine bodyPost_ret (results_tmp2 rfl _ _ _) rfl ?_
   exact hf.out
 have hfin:=hide (ro_now hG (Below.refl _ _) 0 1)
 rw [show (s,(0 : Int),(1 : Int)) = actJ nn kk s kd l from by unfold actJ; rw [if_pos hk]] at hfin
 have hk3 : (kd != 5) = true:=bne_iff_ne.2 fun e => hk (.inl e)
 have hk4 : (kd != 6) = true:=bne_iff_ne.2 fun e => hk (.inr e)
 replace hk:=hide hk
 go_enter Tryz.func14,Tryz.ntmps14
 go_wp2_with fail
 refine bodyPost_ret (results_tmp2 rfl _ _ _) rfl ?_
 exact hfin.out
end Nt
namespace Nt

theorem calls_ex {P : Program} {f : FuncId} {args : Array Value} {w : World} {R : Ending→World→Prop} (h : Calls P f args w R) : ∃ e w',R e w':=by
  obtain ⟨e,w',_,r,_⟩:=h []
  exact ⟨e,w',r⟩
theorem lo_in {F : Nat} {w : World} {s : Bool} {a : Option Addr} {l c : Nat} {z : Int} (h : Low.Zn F w s a l c z) : InF (fun b => F≤b∧b < w.heap.size) a l:=by
  intro b off e h0
  refine ⟨?_,zn_lt h.old e h0⟩
  rcases h.2 with h2 | ⟨b',off',e',h2⟩
  · omega
  rw [e] at e'
  cases e'
  exact h2
theorem pn_lenF {F : Nat} {w w' : World} {ad ad' : Option Addr} {n n' : Nat} {ps : List (Int × Int)} {B B' : Nat} (h : Low.Pn F w ad n ps B) (h' : Pn w' ad' n' ps B') (hF : ∀ b off,ad = some ⟨b,off,none⟩→F≤b) : PnF (fun b => F≤b∧b < w.heap.size) w ad n ps B':=by
  refine ⟨h.1,?_⟩
  rcases h.2 with h2 | ⟨b,off,e,hb,h2⟩
  · exact .inl h2
  refine .inr ⟨b,off,e,⟨hF b off e,hb⟩,hb,fun i hi => ?_⟩
  obtain ⟨s,a,l,c,e0,e1,e2,hz,hl,hv⟩:=h2 i hi
  rcases h'.2 with h3 | ⟨b',off',e',hb',h3⟩
  · have:=h'.1; omega
  obtain ⟨s',a',l',c',_,_,_,hz',hl',_⟩:=h3 i hi
  exact ⟨s,a,l,c,e0,e1,e2,hz.old,lo_in hz,by rw [(zn_same hz.old hz').2]; exact hl',hv⟩
def RNm (F : Nat) (w : World) (e : Ending) (f : Atm ⊕ Int) (B : Nat) : Prop:=match f with
  | .inl f => ∃ sd ad ld cd ap np cp sk ak lk ck,e = .returned (.tuple #[.agg #[.int .i64 f.kind,.bool sd,.slice ad ld cd,.slice ap np cp,.bool sk,.slice ak lk ck],.int .i64 0]) ∧
      NC (fun b => F≤b∧b < w.heap.size) w ⟨f.kind,sd,ad,ld,cd,ap,np,cp,sk,ak,lk,ck,0,none,0,0⟩ ⟨f.kind,f.d,f.ps,f.k,0,[]⟩ B
  | .inr er => AZ e er
theorem rnorm8_n {w : World} {kd : Int} {sd : Bool} {ad : Option Addr} {ld cd : Nat} {ap : Option Addr} {np cp : Nat} {sk : Bool} {ak : Option Addr} {lk ck : Nat} {d k : Int} {ps : List (Int × Int)} {B : Nat} {F : Nat}
    (hF : F≤w.heap.size) (hd : Zm w sd ad ld cd d) (hld : ld≤B) (hP : Pr w ap np ps B) (hk : Zm w sk ak lk ck k) (hlk : lk≤B) (hn : np≤209716) (hB : B≤1048576) :
    Calls Tryz.prog 39 #[.agg #[.int .i64 kd,.bool sd,.slice ad ld cd,.slice ap np cp,.bool sk,.slice ak lk ck]] w fun e w' => RNm F w' e (formA kd d (nz (lays [] ps)) k) 2097152∧Below w.heap.size w w':=by
  obtain ⟨e',w',qs,hS,hc,hA, -⟩:=calls_ex (anorm_n (kd:=kd) (cp:=cp) hd hld hP hk hlk o_m o_m)
  obtain rfl : qs = nz (lays [] ps):=std_unique hS (std_lays ps) (fun v => (hc v).trans (csum_nzl ps v).symm)
  have hps:=hP.1
  have hql:=std_len hS hc
  refine (Low.rnorm6_n (Fw:=F) hF (.mk hd hF) hld (.mk hP hF) (.mk hk hF) hlk o_m o_m).mono ?_
  rintro e w1 ⟨h,k1⟩
  refine ⟨?_,k1⟩
  cases hf : formA kd d (nz (lays [] ps)) k with
  | inr er => rw [hf] at h; exact h
  | inl f =>
    rw [hf] at h hA
    have hfit:=formA_fit hS hf
    have hprt:=(formA_prt hS hf).1
    have hkd:=fit_kind hfit
    obtain ⟨sd1,ad1,ld1,cd1,ap1,np1,cp1,sk1,ak1,lk1,ck1,rfl,hz1, -,hP1, -,hk1, -,hnew⟩:=h
    obtain ⟨sd2,ad2,ld2,cd2,ap2,np2,cp2,sk2,ak2,lk2,ck2, -,hz2,hl2,hP2,hn2,hk2,hlk2, -⟩:=hA
    have hnp : f.ps.length = np1:=hP1.1
    have hld1 : ld1≤2097152:=by rw [(zn_same hz1.old hz2).2]; omega
    have hlk1 : lk1≤2097152:=by rw [(zn_same hk1.old hk2).2]; omega
    refine ⟨sd1,ad1,ld1,cd1,ap1,np1,cp1,sk1,ak1,lk1,ck1,rfl,?_⟩
    exact ⟨rfl,(by unfold I64; dsimp only; omega),hz1.old,lo_in hz1,hld1,pn_lenF hP1 (hP2.mono o_m) (fun b off e => Nat.le_trans hF (hnew b off e)),(by dsimp only at *; omega),hk1.old,lo_in hk1,hlk1,rfl,(by unfold I64; dsimp only; omega),⟨rfl,.inl rfl⟩,(fun _ _ e => by cases e),Nat.zero_le _⟩

def C01 (s : St) : Prop:=s.L[0]? = some (cst 0)∧s.L[1]? = some (cst 1)

theorem ratom_n {w : World} {ra rm : Nat} {nn kk : Int} {s : St} {R : Nat→Prop} {kd : Int} {sd : Bool} {ad : Option Addr} {ld cd : Nat} {ap : Option Addr} {np cp : Nat} {sk : Bool} {ak : Option Addr} {lk ck : Nat} {d k : Int} {ps : List (Int × Int)} {B : Nat}
    (hG : RG w ra rm nn kk s R) (hC : C01 s) (hd : Zm w sd ad ld cd d) (hld : ld≤B) (hP : Pr w ap np ps B) (hk : Zm w sk ak lk ck k) (hlk : lk≤B) (hn : np≤209716) (hB : B≤1048576) :
    Calls Tryz.prog 12 #[.pointer (some ⟨ra,0,none⟩),.agg #[.int .i64 kd,.bool sd,.slice ad ld cd,.slice ap np cp,.bool sk,.slice ak lk ck]] w fun e w' => RO w w' e ra rm nn kk R (actA nn kk s kd d ps k):=by
  have b0:=below_alloc w (.cells #[.int .i64 kd,.bool sd,.slice ad ld cd,.slice ap np cp,.bool sk,.slice ak lk ck] 42)
  have hnm:=hide (rnorm8_n (F:=w.heap.size) (kd:=kd) (cp:=cp) b0.size (hd.below b0) hld (hP.below b0) (hk.below b0) hlk hn hB)
  clear hd hP hk
  have hfin : Hid (∀ i er w',Below w.heap.size w w'→RO w w' (.returned (.tuple #[.int .i64 i,.int .i64 er])) ra rm nn kk R (s,i,er)):=hide fun i er w' k => ro_now hG k i er
  have hS:=std_lays ps
  cases hf : formA kd d (nz (lays [] ps)) k with
  | inr er =>
    rw [hf] at hnm
    rw [show actA nn kk s kd d ps k = (s,0,er) from by unfold actA; rw [hf]]
    have her : er = 11 ∨ er = 1:=formA_er hf
    clear hG hf
    rcases her with rfl | rfl <;>
      (go_enter Tryz.func12,Tryz.ntmps12
       go_wp2_with fail
       refine hnm.out.mono ?_
       rintro e w1 ⟨hN,k1⟩
       have he9 : _ = _:=hN
       subst he9
       clear hnm hN
       have kb:=hide (grow_step k1 b0)
       clear k1 b0
       go_wp2
       refine bodyPost_ret (results_tmp2 rfl _ _ _) rfl ?_
       exact hfin.out _ _ _ (below_alloc' kb.out _))
  | inl f =>
    have hfit:=formA_fit hS hf
    have hact : actA nn kk s kd d ps k = putE nn kk s ⟨f.kind,f.d,f.ps,f.k,0,[]⟩:=by unfold actA; rw [hf]
    rw [hf] at hnm
    rw [hact]
    clear hact hf hS
    have hkd:=fit_kind hfit
    by_cases h01 : f.kind = 0 ∨ f.kind = 1
    · obtain ⟨g1,g2,g3⟩ : f.d = 0∧f.ps = []∧f.k = 0:=by
        rcases hfit with ⟨_,h⟩ | ⟨h,_⟩ | ⟨h,_⟩
        · exact h
        · omega
        omega
      have hput : putE nn kk s ⟨f.kind,f.d,f.ps,f.k,0,[]⟩ = (s,f.kind,0):=by
        rw [g1,g2,g3]
        rcases h01 with h | h <;> rw [h]
        · exact putE_found (i:=0) hG.uq hC.1
        exact putE_found (i:=1) hG.uq hC.2
      rw [hput]
      clear hput g1 g2 g3 hfit hG
      obtain ⟨fk,fd,fps,fkk⟩:=f
      dsimp only at *
      rcases h01 with rfl | rfl <;>
        (go_enter Tryz.func12,Tryz.ntmps12
         go_wp2_with fail
         refine hnm.out.mono ?_
         rintro e w1 ⟨⟨sd1,ad1,ld1,cd1,ap1,np1,cp1,sk1,ak1,lk1,ck1,rfl,hnc⟩,k1⟩
         clear hnm hnc
         have kb:=hide (grow_step k1 b0)
         clear k1 b0
         go_wp2
         refine bodyPost_ret (results_tmp2 rfl _ _ _) rfl ?_
         exact hfin.out _ _ _ (below_alloc' kb.out _))
    have hnk : Nk ⟨f.kind,f.d,f.ps,f.k,0,[]⟩:=by
      rcases hfit with ⟨h,_⟩ | ⟨h,h2,_⟩ | ⟨h,_⟩
      · exact absurd h h01
      · exact .inr (.inl ⟨h,h2⟩)
      exact .inl h
    obtain ⟨C,nv,X,hA,hrm,hF⟩:=hG.ar
    have k0 : (f.kind == 0) = false:=beq_false_of_ne fun e => h01 (.inl e)
    have k1 : (f.kind == 1) = false:=beq_false_of_ne fun e => h01 (.inr e)
    clear hfit hfin h01
    obtain ⟨fk,fd,fps,fkk⟩:=f
    dsimp only at *
    go_enter Tryz.func12,Tryz.ntmps12
    go_wp2_with fail
    refine hnm.out.mono ?_
    rintro e w1 ⟨⟨sd1,ad1,ld1,cd1,ap1,np1,cp1,sk1,ak1,lk1,ck1,rfl,hnc⟩,k1⟩
    clear hnm
    have kb:=hide (grow_step k1 b0)
    clear k1 b0
    have bq:=below_alloc w1 (.cells #[.int .i64 fk,.bool sd1,.slice ad1 ld1 cd1,.slice ap1 np1 cp1,.bool sk1,.slice ak1 lk1 ck1] 42)
    have kb2:=hide (grow_step bq kb.out)
    have hmade:=rmade_n (s0:=w.heap.size) (hA.below kb2.out) (hG.mb.below kb2.out) (hnc.move bq.size (fun b _ hl => bq.block b hl) (fun b hb hl => ⟨hb.1,Nat.lt_of_lt_of_le hb.2 bq.size⟩)) hG.uq (by have:=hG.ln; have:=hG.cn; have:=hG.n2; omega) (Nat.le_refl _) hG.mb.lt kb2.out.size (fun b hb => hA.fl hb) hrm hnk hG.k0 hG.c0 hG.cn hG.n2 hG.e0
    simp only [NR.enc] at hmade
    have hfr : Hid (∀ e w',RMd (w1.alloc (.cells #[.int .i64 fk,.bool sd1,.slice ad1 ld1 cd1,.slice ap1 np1 cp1,.bool sk1,.slice ak1 lk1 ck1] 42)) w' e ra rm nn kk s C nv w.heap.size 2097152 ⟨fk,fd,fps,fkk,0,[]⟩→RO w w' e ra rm nn kk R (putE nn kk s ⟨fk,fd,fps,fkk,0,[]⟩)):=hide fun e w' h => rmd_ro hG hrm hF kb2.out h
    replace hmade:=hide hmade
    clear hnc bq kb kb2 hG hA
    go_wp2_with fail
    refine hmade.out.mono ?_
    rintro e w3 hM
    have hf:=hide (hfr.out e w3 hM)
    obtain ⟨rfl, -⟩:=hM
    clear hmade hfr
    go_wp2
    refine bodyPost_ret (results_tmp2 rfl _ _ _) rfl ?_
    exact hf.out
end Nt
end Go.Proofs.YtcfmkjegolpgaaaGreatDoor
