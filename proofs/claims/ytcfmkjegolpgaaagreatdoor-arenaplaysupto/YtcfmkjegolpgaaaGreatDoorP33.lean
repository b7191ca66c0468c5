/-
 The reference once more: each answer's numbers lie in new memory (layer 6: Less).
-/
import Derived.Test.YtcfmkjegolpgaaaGreatDoorPT
import Derived.Test.YtcfmkjegolpgaaaGreatDoorP29
import Derived.Test.YtcfmkjegolpgaaaGreatDoorP26
set_option maxRecDepth 100000
set_option maxHeartbeats 6400000
namespace Go.Proofs.YtcfmkjegolpgaaaGreatDoor.Low
open Go.RowKit Go.Sort Go.Shelf
open Tm At
open Lw (Lo)

variable {Fw n B cp l c l2 c2 : Nat} {w : World} {ad a a2 : Option Addr} {ps : List (Int × Int)} {s s2 : Bool}
def AW (Fw : Nat) (w : World) (e : Ending) (f : Atm) (B B0 : Nat) : Prop :=
 ∃ sd ad ld cd ap np cp sk ak lk ck,e = .returned (.agg #[.int .i64 f.kind,.bool sd,.slice ad ld cd,.slice ap np cp,.bool sk,.slice ak lk ck])∧Zn Fw w sd ad ld cd f.d∧ld≤B∧Pn Fw w ap np f.ps B∧np≤B∧Zn Fw w sk ak lk ck f.k∧lk≤B∧∀ b off,ap = some ⟨b,off,none⟩→B0≤b
theorem Pn.away {w' : World} {r : Nat} (h : Pn Fw w ad n ps B) (hr : ∀ b off,ad = some ⟨b,off,none⟩→b ≠ r) (hg : w.grownBy w' (some r)) (hU : NoU w r) : Pn Fw w' ad n ps B:=by
 refine ⟨h.1,?_⟩
 rcases h.2 with h2 | ⟨b,off,e,hb,h2⟩
 ·exact .inl h2
 refine .inr ⟨b,off,e,Nat.lt_of_lt_of_le hb hg.size,fun i hi => ?_⟩
 obtain ⟨s,a,l,c,e0,e1,e2,hz,hl⟩:=h2 i hi
 have eb : w'.heap[b]? = w.heap[b]?:=hg.block b hb (by simpa using hr b off e)
 exact ⟨s,a,l,c,(World.cell?_of_block (a:=⟨b,off + i * 3,none⟩) eb).trans e0,(World.cell?_of_block (a:=⟨b,off + i * 3 + 1,none⟩) eb).trans e1,(World.cell?_of_block (a:=⟨b,off + i * 3 + 2,none⟩) eb).trans e2,hz.grownU hg hU,hl⟩
theorem coefs_n (hP : Pr Fw w ad n ps B) (hn : n≤262144) :
  Calls Tryz.prog 120 #[.agg #[.slice ad n cp,.bool s,.slice a l c]] w fun e w' => ∃ (v : Value) (N : List Raw),e = .returned v∧w'.ownsRow w.heap.size 37 2 v n (N.flatMap encN)∧N.length = n∧(∀ x ∈ N,okN w B x)∧N.map Raw.z = ps.map Prod.snd∧Below w.heap.size w w':=Go.Proofs.YtcfmkjegolpgaaaGreatDoor.coefs_n hP.old hn
theorem rless6_n {k : Int} (hF : FLE Fw w) (hP : Pr Fw w ad n ps B) (hz : Zm Fw w s a l c k) (hl : l≤B) (hn : n≤262144) (hB : B + n≤4194000) :
  Calls Tryz.prog 67 #[.agg #[.slice ad n cp,.bool s,.slice a l c]] w fun e w' => AW Fw w' e (lessF (nz (lays [] ps)) k) (B + n + 16) w.heap.size∧Below w.heap.size w w':=by
 go_enter Tryz.func67,Tryz.ntmps67
 go_wp2_with fail
 have x:=(tb_new w ad n cp s a l c).below (below_alloc _ (.cells #[.int .i64 0,.bool false,.slice none 0 0,.slice none 0 0,.bool false,.slice none 0 0] 42))
 have y : (((w.alloc (.cells #[.slice ad n cp,.bool s,.slice a l c] 40)).alloc (.cells #[.int .i64 0,.bool false,.slice none 0 0,.slice none 0 0,.bool false,.slice none 0 0] 42))).heap[w.heap.size + 1]? = some (.cells #[.int .i64 0,.bool false,.slice none 0 0,.slice none 0 0,.bool false,.slice none 0 0] 42 (0,0)):=by
  have:=heap_alloc_new (w.alloc (.cells #[.slice ad n cp,.bool s,.slice a l c] 40)) (.cells #[.int .i64 0,.bool false,.slice none 0 0,.slice none 0 0,.bool false,.slice none 0 0] 42)
  simpa using this
 have b0 : Below w.heap.size w ((w.alloc (.cells #[.slice ad n cp,.bool s,.slice a l c] 40)).alloc (.cells #[.int .i64 0,.bool false,.slice none 0 0,.slice none 0 0,.bool false,.slice none 0 0] 42)):=below_alloc' (below_alloc _ _) _
 generalize (w.alloc (.cells #[.slice ad n cp,.bool s,.slice a l c] 40)).alloc (.cells #[.int .i64 0,.bool false,.slice none 0 0,.slice none 0 0,.bool false,.slice none 0 0] 42) = wb at *
 replace hP:=hP.below b0
 replace hz:=hz.below b0
 have hpr : w.heap.size < w.heap.size + 1:=by omega
 generalize w.heap.size + 1 = r at *
 generalize hp : w.heap.size = p at *
 replace b0 : Hid (Below w.heap.size w wb):=hp ▸ b0
 replace hp:=hide hp
 have hrl : r < wb.heap.size:=(Array.getElem?_eq_some_iff.1 y).1
 refine (rnorm5_w hP hz hl o_m o_m).mono ?_
 rintro e w1 ⟨ad1,n1,cp1,s1,a1,l1,c1,rfl,hTW,hz1,k1,hn1,hP1,hnew1⟩
 have hl1:=hTW.2.2
 have hS : Std (nz (lays [] ps)):=std_lays ps
 generalize hqs : nz (lays [] ps) = qs at *
 replace hqs:=hide hqs
 have xN:=tb_new w1 ad1 n1 cp1 s1 a1 l1 c1
 have ka:=below_alloc w1 (.cells #[.slice ad1 n1 cp1,.bool s1,.slice a1 l1 c1] 40)
 have y1:=(ka.block r (Nat.lt_of_lt_of_le hrl k1.size)).trans ((k1.block r hrl).trans y)
 have hz2:=hz1.below ka
 have hP2:=hP1.below ka
 have kk:=hide (grow_step ka (grow_step k1 b0.out))
 have hnew2 : Hid (∀ b off,ad1 = some ⟨b,off,none⟩→w.heap.size≤b∧b ≠ r):=(fun b off e => by have h1:=hnew1 b off e; have h2:=hp.out; omega)
 have hs1:=k1.size
 have HH:=hide (And.intro xN (And.intro y1 (And.intro hz2 hP2)))
 replace hS:=hide hS
 clear hTW hz1 k1 hP1 hnew1 xN ka y1 hz2 hP2 b0 x y hP hz
 by_cases h0 : n1 = 0
 ·subst h0
  obtain rfl : qs = []:=List.length_eq_zero_iff.1 HH.out.2.2.2.1
  go_wp2_with fail
  obtain ⟨xN,y1,hz2,hP2⟩:=HH.out
  clear HH
  generalize w1.alloc (.cells #[.slice ad1 0 cp1,.bool s1,.slice a1 l1 c1] 40) = wn at *
  generalize w1.heap.size = bn at *
  refine (rsign_n hz2.zm o_m).mono ?_
  rintro e w3 ⟨rfl,k3⟩
  have hrn : r < wn.heap.size:=(Array.getElem?_eq_some_iff.1 y1).1
  have y3:=(k3.block r hrn).trans y1
  replace kk:=hide (grow_step k3 kk.out)
  have hcz : Hid (∀ b : Bool,b = decide (0 < cmpI k 0)→lessF [] k = ⟨if b then 1 else 0,0,[],0⟩):=fun b hb => by
   subst hb
   unfold lessF tru
   rw [if_pos rfl]
   by_cases h9 : 0 < k <;> simp [h9,cmpI_pos]
  clear k3 y1 hz2 hP2 xN
  generalize cmpI k 0 = cz at *
  go_wp2_with fail
  refine (rconst6_n).mono ?_
  rintro e w4 ⟨rfl,k4⟩
  have hr3 : r < w3.heap.size:=(Array.getElem?_eq_some_iff.1 y3).1
  have y4 : AB w4 r 0 false none 0 0 none 0 0 false none 0 0:=(k4.block r hr3).trans y3
  have hF:=hide (hcz.out _ rfl)
  generalize decide (0 < cz) = bb at *
  have hkf:=grow_step k4 kk.out
  generalize hki : (if bb = true then (1 : Int) else 0) = ki at *
  have e0:=y4.c0
  have e1:=y4.c1
  have e2:=y4.c2
  have e3:=y4.c3
  have e4:=y4.c4
  have e5:=y4.c5
  have f0:=y4.f 0
  have f1:=y4.f 1
  have f2:=y4.f 2
  have f3:=y4.f 3
  have f4:=y4.f 4
  have f5:=y4.f 5
  have HH:=hide (And.intro (ab_fin y4 ki false none 0 0 none 0 0 false none 0 0) (below_grown hkf (ab_set w4 r (.int .i64 ki) (.bool false) (.slice none 0 0) (.slice none 0 0) (.bool false) (.slice none 0 0)) (show w.heap.size≤r by have:=hp.out; omega)))
  clear k4 kk y3 y4 hkf hcz hki
  go_wp2
  refine bodyPost_ret (results_cell_row rfl _ _ r 42 _ (0,0) _ rfl HH.out.1 Tryz.underlying42 rfl k_f) rfl ?_
  refine ⟨?_,HH.out.2⟩
  rw [hqs.out,hF.out]
  exact ⟨false,none,0,0,none,0,0,false,none,0,0,by simp,zn_zero _,by omega,pn_nil _ _ _,by omega,zn_zero _,by omega,fun _ _ h => by cases h⟩
 have i0 : (((n1 : Nat) : Int) == 0) = false:=by rw [beq_eq_false_iff_ne]; omega
 go_wp2_with fail
 obtain ⟨xN,y1,hz2,hP2⟩:=HH.out
 clear HH
 generalize w1.alloc (.cells #[.slice ad1 n1 cp1,.bool s1,.slice a1 l1 c1] 40) = wn at *
 generalize w1.heap.size = bn at *
 have hrn : r < wn.heap.size:=(Array.getElem?_eq_some_iff.1 y1).1
 refine (coefs_n hP2.pr o_m).mono ?_
 rintro e w3 ⟨vN,N,rfl,hrow,hN,hokN,hNz,k3⟩
 replace hokN : ∀ x ∈ N,okN w3 _ x:=fun x hx => (hokN x hx).below k3
 have hpos3 : 0 < w3.heap.size:=by have:=k3.size; omega
 obtain ⟨adl,cap,bl,rfl,had,hZL⟩:=row_zl hrow hN hokN o_m hpos3
 obtain rfl:=had o_m
 have hfl : ∀ i,i < n1→(N.getD i zr).l≤B + n + 1:=fun i hi => by rw [getD_at o_m]; exact (hokN _ (List.getElem_mem _)).2
 have hval : Hid (fold gcdI 0 (fun i => ((N.getD i zr).z.natAbs : Int)) n1 = ((gcdL 0 qs : Nat) : Int)):=(show _ = _ by rw [fold_gcd N n1 o_m,List.take_of_length_le o_m,hNz,gcdZ_all])
 replace xN:=xN.below k3
 replace y1:=(k3.block r hrn).trans y1
 replace hz2:=hz2.below k3
 replace hP2:=hP2.below k3
 replace kk:=hide (grow_step k3 kk.out)
 clear hrow hokN hNz k3 had
 go_wp2_with fail
 refine (rgcd6_list hZL hfl o_m o_m).mono ?_
 rintro e w4 ⟨sg,ag,lg,cg,rfl,hzg,k4,hlg⟩
 rw [hval.out] at hzg
 have zg:=zb_new w4 sg ag lg cg
 have kg:=below_alloc w4 (.cells #[.bool sg,.slice ag lg cg] 37)
 have hpos9 : (0 : Int) < ((gcdL 0 qs : Nat) : Int):=by
  have h9 : qs ≠ []:=fun e => h0 (by rw [← hP2.1,e]; rfl)
  have:=gcdL_pos (g:=0) (qs:=qs) (.inr (std_some hS.out h9))
  omega
 replace xN:=(xN.below k4).below kg
 have hr3 : r < w3.heap.size:=(Array.getElem?_eq_some_iff.1 y1).1
 have hr4 : r < w4.heap.size:=Nat.lt_of_lt_of_le hr3 k4.size
 replace y1:=(kg.block r hr4).trans ((k4.block r hr3).trans y1)
 replace hz2:=(hz2.below k4).below kg
 replace hP2:=(hP2.below k4).below kg
 replace hzg:=hzg.below kg
 replace kk:=hide (grow_step kg (grow_step k4 kk.out))
 have HH:=hide (And.intro xN (And.intro y1 (And.intro hz2 (And.intro hP2 (And.intro hzg zg)))))
 clear xN y1 hz2 hP2 hzg zg k4 kg hZL hfl hval
 go_wp2_with fail
 obtain ⟨xN,y1,hz2,hP2,hzg,zg⟩:=HH.out
 clear HH
 generalize w4.alloc (.cells #[.bool sg,.slice ag lg cg] 37) = w5 at *
 generalize w4.heap.size = bg at *
 refine (rof_n 1 (by decide) (by decide) w5 (hF.le kk.out)).mono ?_
 rintro e w6 ⟨s6,a6,l6,c6,rfl,hz6,k6,hl6⟩
 have zo:=zb_new w6 s6 a6 l6 c6
 have kg:=below_alloc w6 (.cells #[.bool s6,.slice a6 l6 c6] 37)
 have hr5 : r < w5.heap.size:=(Array.getElem?_eq_some_iff.1 y1).1
 have hr6 : r < w6.heap.size:=Nat.lt_of_lt_of_le hr5 k6.size
 replace xN:=(xN.below k6).below kg
 replace y1:=(kg.block r hr6).trans ((k6.block r hr5).trans y1)
 replace hz2:=(hz2.below k6).below kg
 replace hP2:=(hP2.below k6).below kg
 replace hzg:=(hzg.below k6).below kg
 replace zg:=(zg.below k6).below kg
 replace hz6:=hz6.below kg
 replace kk:=hide (grow_step kg (grow_step k6 kk.out))
 have HH:=hide (And.intro xN (And.intro y1 (And.intro hz2 (And.intro hP2 (And.intro hzg (And.intro zg (And.intro hz6 zo)))))))
 clear xN y1 hz2 hP2 hzg zg k6 kg hz6 zo
 go_wp2_with fail
 obtain ⟨xN,y1,hz2,hP2,hzg,zg,hz6,zo⟩:=HH.out
 clear HH
 generalize w6.alloc (.cells #[.bool s6,.slice a6 l6 c6] 37) = w7 at *
 generalize w6.heap.size = bo at *
 refine Code.wp_mono (Q:=fun e a' W' => e = .normal∧∃ bO sA aA lA cA sB aB lB cB sC aC lC cC,a' = ⟨List.toArray ((.agg #[.slice ad n cp,.bool s,.slice a l c] : Value) :: (.pointer (some ⟨p,0,none⟩) : Value) :: (.pointer (some ⟨r,0,none⟩) : Value) :: (.pointer (some ⟨bn,0,none⟩) : Value) :: undef :: (.pointer (some ⟨bg,0,none⟩) : Value) :: (.pointer (some ⟨bo,0,none⟩) : Value) :: (.pointer (some ⟨bO,0,none⟩) : Value) :: undef :: (.agg #[.slice ad n cp,.bool s,.slice a l c] : Value) :: (.agg #[.slice ad1 n1 cp1,.bool s1,.slice a1 l1 c1] : Value) :: (.pointer (some ⟨bn,0,none⟩) : Value) :: (.slice ad1 n1 cp1 : Value) :: (.int .i64 n1 : Value) :: (.bool false : Value) :: undef :: undef :: undef :: undef :: undef :: undef :: (.agg #[.slice ad1 n1 cp1,.bool s1,.slice a1 l1 c1] : Value) :: (.slice (some ⟨bl,0,none⟩) n1 cap : Value) :: (.agg #[.bool sg,.slice ag lg cg] : Value) :: (.agg #[.bool s6,.slice a6 l6 c6] : Value) :: (.pointer (some ⟨bn,1,none⟩) : Value) :: (.agg #[.bool s1,.slice a1 l1 c1] : Value) :: (.agg #[.bool s6,.slice a6 l6 c6] : Value) :: (.agg #[.bool sA,.slice aA lA cA] : Value) :: (.agg #[.bool sg,.slice ag lg cg] : Value) :: (.agg #[.bool sB,.slice aB lB cB] : Value) :: (.agg #[.bool s6,.slice a6 l6 c6] : Value) :: (.agg #[.bool sC,.slice aC lC cC] : Value) :: (.agg #[.slice none 0 0,.bool sC,.slice aC lC cC] : Value) :: undef :: undef :: undef :: undef :: undef :: undef :: undef :: undef :: undef :: undef :: undef :: undef :: undef :: undef :: undef :: undef :: undef :: undef :: undef :: undef :: undef :: undef :: undef :: undef :: undef :: undef :: undef :: undef :: undef :: []),[]⟩∧TB W' bO none 0 0 sC aC lC cC∧Zn Fw W' sC aC lC cC ((k - 1) / ((gcdL 0 qs : Nat) : Int) + 1)∧lC≤B + n + 7∧w7.heap.size≤bO∧Below w7.heap.size w7 W') ?_ ?_
 rotate_left
 ·refine wp_region_held_drew (S:=(fun w' => w'.cell? ⟨bn,1,none⟩ = some (.bool s1)∧w'.cell? ⟨bn,2,none⟩ = some (.slice a1 l1 c1)∧w'.cell? ⟨bo,0,none⟩ = some (.bool s6)∧w'.cell? ⟨bo,1,none⟩ = some (.slice a6 l6 c6)∧w'.cell? ⟨bg,0,none⟩ = some (.bool sg)∧w'.cell? ⟨bg,1,none⟩ = some (.slice ag lg cg)∧Below w7.heap.size w7 w')) k_f (lq7 xN zo zg (grow_drew (Below.refl _ _))) (fun hHeld => ?_)
  show wpAnyH _ _ _ _ _ 11 _ _ _
  have kW:=grow_drew (Below.refl w7.heap.size w7)
  generalize w7.drew = wQ at *
  refine wpAnyH_take (i:=0) (oi:=⟨some 25,_,_,_,_,_⟩) (v:=?_) rfl k_f k_f k_f (fun _ _ _ h => by cases h.1) (Or.inl ⟨by rfl,?_⟩) (by assumption) ?_
  rotate_left
  ·intro wq hSw; (try dsimp only at hSw); go_simp; (try with_reducible rfl)
  (try simp only [pz])
  refine wpAnyH_take (i:=1) (oi:=⟨some 26,_,_,_,_,_⟩) (v:=?_) rfl k_f k_f k_f (fun _ _ _ h => by cases h.1) (Or.inl ⟨by rfl,?_⟩) (by assumption) ?_
  rotate_left
  ·intro wq hSw; (try dsimp only at hSw); go_simp; (try with_reducible rfl)
  (try simp only [pz])
  refine wpAnyH_take (i:=2) (oi:=⟨some 27,_,_,_,_,_⟩) (v:=?_) rfl k_f k_f k_f (fun _ _ _ h => by cases h.1) (Or.inl ⟨by rfl,?_⟩) (by assumption) ?_
  rotate_left
  ·intro wq hSw; (try dsimp only at hSw); go_simp; (try with_reducible rfl)
  (try simp only [pz])
  refine wpAnyH_take (i:=4) (oi:=⟨some 29,_,_,_,_,_⟩) (v:=?_) rfl k_f k_f k_f (fun _ _ _ h => by cases h.1) (Or.inl ⟨by rfl,?_⟩) (by assumption) ?_
  rotate_left
  ·intro wq hSw; (try dsimp only at hSw); go_simp; (try with_reducible rfl)
  (try simp only [pz])
  refine wpAnyH_take (i:=6) (oi:=⟨some 31,_,_,_,_,_⟩) (v:=?_) rfl k_f k_f k_f (fun _ _ _ h => by cases h.1) (Or.inl ⟨by rfl,?_⟩) (by assumption) ?_
  rotate_left
  ·intro wq hSw; (try dsimp only at hSw); go_simp; (try with_reducible rfl)
  (try simp only [pz])
  refine wpAnyH_ready (rs:=[3,9]) k_f (by simp) ?_
  refine AllReadyH.cons (o:=⟨some 28,_,_,_,_,_⟩) rfl (fun K hK => ?_) ?_
  ·go_simp
   go_at_call 124; refine Calls.mono (rsub2_n (hz2.zm.below kW) (hz6.zm.below kW) o_m o_m) ?_; rintro e wA ⟨sA,aA,lA,cA,rfl,hA,kA,hlA⟩
   have kW:=grow_step kA kW
   (try go_wp2_with fail)
   refine hK.out _ _ ?_ ?_
   ·(try dsimp only); exact lq7 xN zo zg kW
   clear hK K hHeld; intro hHeld
   (try simp only [pz])
   refine wpAnyH_ready (rs:=[5,9]) k_f (by simp) ?_
   refine AllReadyH.cons (o:=⟨some 30,_,_,_,_,_⟩) rfl (fun K hK => ?_) ?_
   ·go_simp
    go_at_call 123; refine Calls.mono (rfloor6_n hA.zm (hzg.zm.below kW) o_m o_m hpos9) ?_; rintro e wB ⟨sB,aB,lB,cB,rfl,hBz,kB,hlB⟩
    have hA:=hA.below kB
    have kW:=grow_step kB kW
    (try go_wp2_with fail)
    refine hK.out _ _ ?_ ?_
    ·(try dsimp only); exact lq7 xN zo zg kW
    clear hK K hHeld; intro hHeld
    (try simp only [pz])
    refine wpAnyH_ready (rs:=[7,9]) k_f (by simp) ?_
    refine AllReadyH.cons (o:=⟨some 32,_,_,_,_,_⟩) rfl (fun K hK => ?_) ?_
    ·go_simp
     go_at_call 122; refine Calls.mono (radd2_n hBz.zm (hz6.zm.below kW) o_m o_m) ?_; rintro e wC ⟨sC,aC,lC,cC,rfl,hC,kC,hlC⟩
     have hA:=hA.below kC
     have hBz:=hBz.below kC
     have kW:=grow_step kC kW
     (try go_wp2_with fail)
     refine hK.out _ _ ?_ ?_
     ·(try dsimp only); exact lq7 xN zo zg kW
     clear hK K hHeld; intro hHeld
     (try simp only [pz])
     refine wpAnyH_ready (rs:=[8,9]) k_f (by simp) ?_
     refine AllReadyH.cons (o:=⟨some 33,_,_,_,_,_⟩) rfl (fun K hK => ?_) ?_
     ·skip
      go_simp
      refine hK.out _ _ ?_ ?_
      ·(try dsimp only); exact lq7 xN zo zg kW
      clear hK K hHeld; intro hHeld
      (try simp only [pz])
      refine ryz 9 (some 7) (fun K hK => ?_) ?_
      ·have kL:=below_alloc (wC) (.cells #[.slice none 0 0,.bool false,.slice none 0 0] 40)
       have hA:=hA.below kL
       have hBz:=hBz.below kL
       have hC:=hC.below kL
       have zO : TB ((wC).alloc (.cells #[.slice none 0 0,.bool false,.slice none 0 0] 40)) (wC.heap.size) none 0 0 false none 0 0:=tb_new _ _ _ _ _ _ _ _
       have hbzO : w7.heap.size≤wC.heap.size:=kW.size
       have kW:=grow_step kL kW
       go_simp
       refine hK.out _ _ ?_ ?_
       ·(try dsimp only); exact lq7 xN zo zg kW
       clear hK K hHeld; intro hHeld
       (try simp only [pz])
       generalize (wC).alloc (.cells #[.slice none 0 0,.bool false,.slice none 0 0] 40) = wLzO at *
       refine ryz 10 none (fun K hK => ?_) ?_
       ·skip
        have f0:=zO.c0
        have f1:=zO.c1
        have f2:=zO.c2
        have f3:=zO.f 0
        have f4:=zO.f 1
        have f5:=zO.f 2
        go_simp
        have gS:=tb_set wLzO (wC.heap.size) (.slice none 0 0) (.bool sC) (.slice aC lC cC)
        have hC:=hC.grownU gS (tb_noU zO)
        have zO:=tb_fin zO none 0 0 sC aC lC cC
        have kW:=((kW.setCell (p:=⟨wC.heap.size,0,none⟩) hbzO (.slice none 0 0)).setCell (p:=⟨wC.heap.size,1,none⟩) hbzO (.bool sC)).setCell (p:=⟨wC.heap.size,2,none⟩) hbzO (.slice aC lC cC)
        refine hK.out _ _ ?_ ?_
        ·(try dsimp only); exact lq7 xN zo zg kW
        clear hK K hHeld; intro hHeld
        (try simp only [pz])
        refine wpAnyH_done k_f ?_ _
        exact ⟨rfl,_,sA,aA,lA,cA,sB,aB,lB,cB,sC,aC,lC,cC,rfl,zO,hC,by omega,hbzO,kW⟩
       exact AllReadyH.nil
      exact AllReadyH.nil
     refine AllReadyH.cons (o:=⟨some 7,_,_,_,_,_⟩) rfl (fun K hK => ?_) ?_
     ·have kL:=below_alloc (wC) (.cells #[.slice none 0 0,.bool false,.slice none 0 0] 40)
      have hA:=hA.below kL
      have hBz:=hBz.below kL
      have hC:=hC.below kL
      have zO : TB ((wC).alloc (.cells #[.slice none 0 0,.bool false,.slice none 0 0] 40)) (wC.heap.size) none 0 0 false none 0 0:=tb_new _ _ _ _ _ _ _ _
      have hbzO : w7.heap.size≤wC.heap.size:=kW.size
      have kW:=grow_step kL kW
      go_simp
      refine hK.out _ _ ?_ ?_
      ·(try dsimp only); exact lq7 xN zo zg kW
      clear hK K hHeld; intro hHeld
      (try simp only [pz])
      generalize (wC).alloc (.cells #[.slice none 0 0,.bool false,.slice none 0 0] 40) = wLzO at *
      refine ryz 8 (some 33) (fun K hK => ?_) ?_
      ·skip
       go_simp
       refine hK.out _ _ ?_ ?_
       ·(try dsimp only); exact lq7 xN zo zg kW
       clear hK K hHeld; intro hHeld
       (try simp only [pz])
       refine ryz 10 none (fun K hK => ?_) ?_
       ·skip
        have f0:=zO.c0
        have f1:=zO.c1
        have f2:=zO.c2
        have f3:=zO.f 0
        have f4:=zO.f 1
        have f5:=zO.f 2
        go_simp
        have gS:=tb_set wLzO (wC.heap.size) (.slice none 0 0) (.bool sC) (.slice aC lC cC)
        have hC:=hC.grownU gS (tb_noU zO)
        have zO:=tb_fin zO none 0 0 sC aC lC cC
        have kW:=((kW.setCell (p:=⟨wC.heap.size,0,none⟩) hbzO (.slice none 0 0)).setCell (p:=⟨wC.heap.size,1,none⟩) hbzO (.bool sC)).setCell (p:=⟨wC.heap.size,2,none⟩) hbzO (.slice aC lC cC)
        refine hK.out _ _ ?_ ?_
        ·(try dsimp only); exact lq7 xN zo zg kW
        clear hK K hHeld; intro hHeld
        (try simp only [pz])
        refine wpAnyH_done k_f ?_ _
        exact ⟨rfl,_,sA,aA,lA,cA,sB,aB,lB,cB,sC,aC,lC,cC,rfl,zO,hC,by omega,hbzO,kW⟩
       exact AllReadyH.nil
      exact AllReadyH.nil
     exact AllReadyH.nil
    refine AllReadyH.cons (o:=⟨some 7,_,_,_,_,_⟩) rfl (fun K hK => ?_) ?_
    ·have kL:=below_alloc (wB) (.cells #[.slice none 0 0,.bool false,.slice none 0 0] 40)
     have hA:=hA.below kL
     have hBz:=hBz.below kL
     have zO : TB ((wB).alloc (.cells #[.slice none 0 0,.bool false,.slice none 0 0] 40)) (wB.heap.size) none 0 0 false none 0 0:=tb_new _ _ _ _ _ _ _ _
     have hbzO : w7.heap.size≤wB.heap.size:=kW.size
     have kW:=grow_step kL kW
     go_simp
     refine hK.out _ _ ?_ ?_
     ·(try dsimp only); exact lq7 xN zo zg kW
     clear hK K hHeld; intro hHeld
     (try simp only [pz])
     generalize (wB).alloc (.cells #[.slice none 0 0,.bool false,.slice none 0 0] 40) = wLzO at *
     refine ryz 7 (some 32) (fun K hK => ?_) ?_
     ·go_simp
      go_at_call 122; refine Calls.mono (radd2_n hBz.zm (hz6.zm.below kW) o_m o_m) ?_; rintro e wC ⟨sC,aC,lC,cC,rfl,hC,kC,hlC⟩
      have hA:=hA.below kC
      have hBz:=hBz.below kC
      have zO:=zO.below kC
      have kW:=grow_step kC kW
      (try go_wp2_with fail)
      refine hK.out _ _ ?_ ?_
      ·(try dsimp only); exact lq7 xN zo zg kW
      clear hK K hHeld; intro hHeld
      (try simp only [pz])
      refine ryz 8 (some 33) (fun K hK => ?_) ?_
      ·skip
       go_simp
       refine hK.out _ _ ?_ ?_
       ·(try dsimp only); exact lq7 xN zo zg kW
       clear hK K hHeld; intro hHeld
       (try simp only [pz])
       refine ryz 10 none (fun K hK => ?_) ?_
       ·skip
        have f0:=zO.c0
        have f1:=zO.c1
        have f2:=zO.c2
        have f3:=zO.f 0
        have f4:=zO.f 1
        have f5:=zO.f 2
        go_simp
        have gS:=tb_set wC (wB.heap.size) (.slice none 0 0) (.bool sC) (.slice aC lC cC)
        have hC:=hC.grownU gS (tb_noU zO)
        have zO:=tb_fin zO none 0 0 sC aC lC cC
        have kW:=((kW.setCell (p:=⟨wB.heap.size,0,none⟩) hbzO (.slice none 0 0)).setCell (p:=⟨wB.heap.size,1,none⟩) hbzO (.bool sC)).setCell (p:=⟨wB.heap.size,2,none⟩) hbzO (.slice aC lC cC)
        refine hK.out _ _ ?_ ?_
        ·(try dsimp only); exact lq7 xN zo zg kW
        clear hK K hHeld; intro hHeld
        (try simp only [pz])
        refine wpAnyH_done k_f ?_ _
        exact ⟨rfl,_,sA,aA,lA,cA,sB,aB,lB,cB,sC,aC,lC,cC,rfl,zO,hC,by omega,hbzO,kW⟩
       exact AllReadyH.nil
      exact AllReadyH.nil
     exact AllReadyH.nil
    exact AllReadyH.nil
   refine AllReadyH.cons (o:=⟨some 7,_,_,_,_,_⟩) rfl (fun K hK => ?_) ?_
   ·have kL:=below_alloc (wA) (.cells #[.slice none 0 0,.bool false,.slice none 0 0] 40)
    have hA:=hA.below kL
    have zO : TB ((wA).alloc (.cells #[.slice none 0 0,.bool false,.slice none 0 0] 40)) (wA.heap.size) none 0 0 false none 0 0:=tb_new _ _ _ _ _ _ _ _
    have hbzO : w7.heap.size≤wA.heap.size:=kW.size
    have kW:=grow_step kL kW
    go_simp
    refine hK.out _ _ ?_ ?_
    ·(try dsimp only); exact lq7 xN zo zg kW
    clear hK K hHeld; intro hHeld
    (try simp only [pz])
    generalize (wA).alloc (.cells #[.slice none 0 0,.bool false,.slice none 0 0] 40) = wLzO at *
    refine ryz 5 (some 30) (fun K hK => ?_) ?_
    ·go_simp
     go_at_call 123; refine Calls.mono (rfloor6_n hA.zm (hzg.zm.below kW) o_m o_m hpos9) ?_; rintro e wB ⟨sB,aB,lB,cB,rfl,hBz,kB,hlB⟩
     have hA:=hA.below kB
     have zO:=zO.below kB
     have kW:=grow_step kB kW
     (try go_wp2_with fail)
     refine hK.out _ _ ?_ ?_
     ·(try dsimp only); exact lq7 xN zo zg kW
     clear hK K hHeld; intro hHeld
     (try simp only [pz])
     refine ryz 7 (some 32) (fun K hK => ?_) ?_
     ·go_simp
      go_at_call 122; refine Calls.mono (radd2_n hBz.zm (hz6.zm.below kW) o_m o_m) ?_; rintro e wC ⟨sC,aC,lC,cC,rfl,hC,kC,hlC⟩
      have hA:=hA.below kC
      have zO:=zO.below kC
      have hBz:=hBz.below kC
      have kW:=grow_step kC kW
      (try go_wp2_with fail)
      refine hK.out _ _ ?_ ?_
      ·(try dsimp only); exact lq7 xN zo zg kW
      clear hK K hHeld; intro hHeld
      (try simp only [pz])
      refine ryz 8 (some 33) (fun K hK => ?_) ?_
      ·skip
       go_simp
       refine hK.out _ _ ?_ ?_
       ·(try dsimp only); exact lq7 xN zo zg kW
       clear hK K hHeld; intro hHeld
       (try simp only [pz])
       refine ryz 10 none (fun K hK => ?_) ?_
       ·skip
        have f0:=zO.c0
        have f1:=zO.c1
        have f2:=zO.c2
        have f3:=zO.f 0
        have f4:=zO.f 1
        have f5:=zO.f 2
        go_simp
        have gS:=tb_set wC (wA.heap.size) (.slice none 0 0) (.bool sC) (.slice aC lC cC)
        have hC:=hC.grownU gS (tb_noU zO)
        have zO:=tb_fin zO none 0 0 sC aC lC cC
        have kW:=((kW.setCell (p:=⟨wA.heap.size,0,none⟩) hbzO (.slice none 0 0)).setCell (p:=⟨wA.heap.size,1,none⟩) hbzO (.bool sC)).setCell (p:=⟨wA.heap.size,2,none⟩) hbzO (.slice aC lC cC)
        refine hK.out _ _ ?_ ?_
        ·(try dsimp only); exact lq7 xN zo zg kW
        clear hK K hHeld; intro hHeld
        (try simp only [pz])
        refine wpAnyH_done k_f ?_ _
        exact ⟨rfl,_,sA,aA,lA,cA,sB,aB,lB,cB,sC,aC,lC,cC,rfl,zO,hC,by omega,hbzO,kW⟩
       exact AllReadyH.nil
      exact AllReadyH.nil
     exact AllReadyH.nil
    exact AllReadyH.nil
   exact AllReadyH.nil
  refine AllReadyH.cons (o:=⟨some 7,_,_,_,_,_⟩) rfl (fun K hK => ?_) ?_
  ·have kL:=below_alloc (wQ) (.cells #[.slice none 0 0,.bool false,.slice none 0 0] 40)
   have zO : TB ((wQ).alloc (.cells #[.slice none 0 0,.bool false,.slice none 0 0] 40)) (wQ.heap.size) none 0 0 false none 0 0:=tb_new _ _ _ _ _ _ _ _
   have hbzO : w7.heap.size≤wQ.heap.size:=kW.size
   have kW:=grow_step kL kW
   go_simp
   refine hK.out _ _ ?_ ?_
   ·(try dsimp only); exact lq7 xN zo zg kW
   clear hK K hHeld; intro hHeld
   (try simp only [pz])
   generalize (wQ).alloc (.cells #[.slice none 0 0,.bool false,.slice none 0 0] 40) = wLzO at *
   refine ryz 3 (some 28) (fun K hK => ?_) ?_
   ·go_simp
    go_at_call 124; refine Calls.mono (rsub2_n (hz2.zm.below kW) (hz6.zm.below kW) o_m o_m) ?_; rintro e wA ⟨sA,aA,lA,cA,rfl,hA,kA,hlA⟩
    have zO:=zO.below kA
    have kW:=grow_step kA kW
    (try go_wp2_with fail)
    refine hK.out _ _ ?_ ?_
    ·(try dsimp only); exact lq7 xN zo zg kW
    clear hK K hHeld; intro hHeld
    (try simp only [pz])
    refine ryz 5 (some 30) (fun K hK => ?_) ?_
    ·go_simp
     go_at_call 123; refine Calls.mono (rfloor6_n hA.zm (hzg.zm.below kW) o_m o_m hpos9) ?_; rintro e wB ⟨sB,aB,lB,cB,rfl,hBz,kB,hlB⟩
     have zO:=zO.below kB
     have hA:=hA.below kB
     have kW:=grow_step kB kW
     (try go_wp2_with fail)
     refine hK.out _ _ ?_ ?_
     ·(try dsimp only); exact lq7 xN zo zg kW
     clear hK K hHeld; intro hHeld
     (try simp only [pz])
     refine ryz 7 (some 32) (fun K hK => ?_) ?_
     ·go_simp
      go_at_call 122; refine Calls.mono (radd2_n hBz.zm (hz6.zm.below kW) o_m o_m) ?_; rintro e wC ⟨sC,aC,lC,cC,rfl,hC,kC,hlC⟩
      have zO:=zO.below kC
      have hA:=hA.below kC
      have hBz:=hBz.below kC
      have kW:=grow_step kC kW
      (try go_wp2_with fail)
      refine hK.out _ _ ?_ ?_
      ·(try dsimp only); exact lq7 xN zo zg kW
      clear hK K hHeld; intro hHeld
      (try simp only [pz])
      refine ryz 8 (some 33) (fun K hK => ?_) ?_
      ·skip
       go_simp
       refine hK.out _ _ ?_ ?_
       ·(try dsimp only); exact lq7 xN zo zg kW
       clear hK K hHeld; intro hHeld
       (try simp only [pz])
       refine ryz 10 none (fun K hK => ?_) ?_
       ·skip
        have f0:=zO.c0
        have f1:=zO.c1
        have f2:=zO.c2
        have f3:=zO.f 0
        have f4:=zO.f 1
        have f5:=zO.f 2
        go_simp
        have gS:=tb_set wC (wQ.heap.size) (.slice none 0 0) (.bool sC) (.slice aC lC cC)
        have hC:=hC.grownU gS (tb_noU zO)
        have zO:=tb_fin zO none 0 0 sC aC lC cC
        have kW:=((kW.setCell (p:=⟨wQ.heap.size,0,none⟩) hbzO (.slice none 0 0)).setCell (p:=⟨wQ.heap.size,1,none⟩) hbzO (.bool sC)).setCell (p:=⟨wQ.heap.size,2,none⟩) hbzO (.slice aC lC cC)
        refine hK.out _ _ ?_ ?_
        ·(try dsimp only); exact lq7 xN zo zg kW
        clear hK K hHeld; intro hHeld
        (try simp only [pz])
        refine wpAnyH_done k_f ?_ _
        exact ⟨rfl,_,sA,aA,lA,cA,sB,aB,lB,cB,sC,aC,lC,cC,rfl,zO,hC,by omega,hbzO,kW⟩
       exact AllReadyH.nil
      exact AllReadyH.nil
     exact AllReadyH.nil
    exact AllReadyH.nil
   exact AllReadyH.nil
  exact AllReadyH.nil
 rintro e a' wo ⟨rfl,o,sA,aA,lA,cA,sB,aB,lB,cB,sC,aC,lC,cC,rfl,yo,hzC,hlC,hoW,k7⟩
 have hr7 : r < w7.heap.size:=(Array.getElem?_eq_some_iff.1 y1).1
 have x1:=xN.below k7
 have z1:=zg.below k7
 have hxl:=xN.lt
 have hgl:=zg.lt
 replace y1:=(k7.block r hr7).trans y1
 have hd:=hzg.zm.below k7
 have hbo : Hid (Below w.heap.size w wo):=grow_step k7 kk.out
 have hP7:=hide hP2
 have hk7:=hide k7
 clear hz2 hzg hz6 zo kk xN zg k7 hP2
 go_wp2_with fail
 go_loopw [8] (fun i wr => ∃ (t : Nat) (ad' : Option Addr) (cap' : Nat) (L' : List Raw),t≤n1∧i = .int .i64 t∧TB wr o ad' t cap' sC aC lC cC∧Hid (RS wo.heap.size wr (.slice ad' t cap') t cap' L')∧Hid (Rok Fw wr (B + n + 4) L')∧Hid ((L'.take t).map Raw.p = mapP (fun x => x / ((gcdL 0 qs : Nat) : Int)) (qs.take t))∧Hid (wo.grownBy wr (some o))) (fun i _ => n1 - (intOf i).toNat)
 case atStart => exact ⟨0,none,0,[],Nat.zero_le _,rfl,yo,.inl ⟨rfl,rfl,rfl,rfl⟩,(fun x hx => absurd hx (by simp)),(show _ = _ from rfl),⟨rfl,rfl,rfl,Nat.le_refl _,fun _ _ _ => rfl⟩⟩
 case round =>
  obtain ⟨t,ad',cap',L',ht,rfl,yr,hR,hok,hlays,hg⟩:=hrel
  have xr:=x1.grown hg.out o_m
  have u0:=xr.c0
  have e0:=yr.c0
  have f0:=yr.f 0
  have hol:=yo.lt
  by_cases htn : t < n1
  ·obtain ⟨hpn,hPr⟩:=hP7.out.pr
   rcases hPr with hPr | ⟨bp,f,rfl,hPr⟩
   ·omega
   have hbp:=hPr.1
   obtain ⟨s3,a3,l3,c3,g0,g1,g2,hz3,hl3,hv⟩:=(hPr.below hk7.out).2 t o_m
   have hbpo : bp ≠ o:=by omega
   have hbpl : bp < wo.heap.size:=(hPr.below hk7.out).1
   have hpo : bn ≠ o:=by omega
   have hqo : bg ≠ o:=by omega
   have hps : Hid (qs.take (t + 1) = qs.take t ++ [qs[t]]):=List.take_succ_eq_append_getElem (l:=qs) (i:=t) o_m
   generalize qs[t] = pp at *
   obtain ⟨pv,pz⟩:=pp
   dsimp only at *
   obtain ⟨w0,hw0,hbr,hnext⟩:=own_base yo hg.out yr
   replace hz3:=hz3.grownU hg.out (tb_noU yo)
   have hd3:=hd.grownU hg.out (tb_noU yo)
   have hRq : RS w0.heap.size wr (.slice ad' t cap') t cap' L':=hw0 ▸ hR.out
   have hokq:=hok.out
   clear hPr
   have HH:=hide (And.intro hbr (And.intro hz3 (And.intro hd3 (And.intro hRq (And.intro hokq (And.intro hnext hw0))))))
   clear hbr hz3 hd3 hRq hokq hnext hw0
   go_wp2_with fail
   obtain ⟨hbr,hz3,hd3,hRq,hokq,hnext,hw0⟩:=HH.out
   clear HH
   refine wp_region_held_drew (S:=(fun w' => w'.cell? ⟨bn,0,none⟩ = some (.slice (some ⟨bp,f,none⟩) n1 cp1)∧w'.cell? ⟨bp,f + t * 3,none⟩ = some (.int .i64 pv)∧w'.cell? ⟨bp,f + t * 3 + 1,none⟩ = some (.bool s3)∧w'.cell? ⟨bp,f + t * 3 + 2,none⟩ = some (.slice a3 l3 c3)∧w'.cell? ⟨bg,0,none⟩ = some (.bool sg)∧w'.cell? ⟨bg,1,none⟩ = some (.slice ag lg cg)∧wo.grownBy w' (some o))) k_f (nk2 x1 hpo g0 g1 g2 hbpl hbpo z1 hqo (gb_below hg.out (grow_drew (Below.refl wr.heap.size wr)))) (fun hHeld => ?_)
   show wpAnyH _ _ _ _ _ 21 _ _ _
   have kW:=grow_drew (Below.refl wr.heap.size wr)
   have yr:=yr.below kW
   have hRq:=hRq.below kW
   have hokq:=hokq.below kW
   generalize wr.drew = wQ at *
   refine tkz 0 41 ?_
   (try simp only [pz])
   refine tkz 2 43 ?_
   (try simp only [pz])
   refine tkz 3 44 ?_
   (try simp only [pz])
   refine tkz 4 45 ?_
   (try simp only [pz])
   refine tkz 5 46 ?_
   (try simp only [pz])
   refine tkz 6 47 ?_
   (try simp only [pz])
   refine tkz 7 48 ?_
   (try simp only [pz])
   refine tkz 8 49 ?_
   (try simp only [pz])
   refine tkz 9 50 ?_
   (try simp only [pz])
   refine tkz 10 51 ?_
   (try simp only [pz])
   refine tkz 11 52 ?_
   (try simp only [pz])
   refine tkz 12 53 ?_
   (try simp only [pz])
   refine tkz 13 54 ?_
   (try simp only [pz])
   refine tkz 14 55 ?_
   (try simp only [pz])
   refine wpAnyH_ready (rs:=[1,15]) k_f (by simp) ?_
   refine AllReadyH.cons (o:=⟨some 42,_,_,_,_,_⟩) rfl (fun K hK => ?_) ?_
   ·have f0:=yr.c0
    go_simp
    refine hK.out _ _ ?_ ?_
    ·(try dsimp only); exact nk2 x1 hpo g0 g1 g2 hbpl hbpo z1 hqo (gb_below hg.out kW)
    clear hK K hHeld; intro hHeld
    (try simp only [pz])
    refine ryz 15 (some 56) (fun K hK => ?_) ?_
    ·go_simp
     go_at_call 123; refine Calls.mono (rfloor6_n (hz3.below kW) (hd3.below kW) o_m o_m hpos9) ?_; rintro e wA ⟨sN,aN,lN,cN,rfl,hN,kA,hlN⟩
     have yr:=yr.below kA
     have hRq:=hRq.below kA
     have hokq:=hokq.below kA
     have kW:=grow_step kA kW
     (try go_wp2_with fail)
     refine hK.out _ _ ?_ ?_
     ·(try dsimp only); exact nk2 x1 hpo g0 g1 g2 hbpl hbpo z1 hqo (gb_below hg.out kW)
     clear hK K hHeld; intro hHeld
     (try simp only [pz])
     refine ryz 16 (some 57) (fun K hK => ?_) ?_
     ·go_simp
      refine hK.out _ _ ?_ ?_
      ·(try dsimp only); exact nk2 x1 hpo g0 g1 g2 hbpl hbpo z1 hqo (gb_below hg.out kW)
      clear hK K hHeld; intro hHeld
      (try simp only [pz])
      refine ryz 17 (some 58) (fun K hK => ?_) ?_
      ·have kL:=below_alloc (wA) (.cells #[.int .i64 pv,.bool sN,.slice aN lN cN] 69)
       have yr:=yr.below kL
       have hRq:=hRq.below kL
       have hokq:=hokq.below kL
       have hN:=hN.below kL
       have hv3:=v3_new wA pv sN aN lN cN
       have kW:=grow_step kL kW
       go_simp
       refine hK.out _ _ ?_ ?_
       ·(try dsimp only); exact nk2 x1 hpo g0 g1 g2 hbpl hbpo z1 hqo (gb_below hg.out kW)
       clear hK K hHeld; intro hHeld
       (try simp only [pz])
       generalize (wA).alloc (.cells #[.int .i64 pv,.bool sN,.slice aN lN cN] 69) = wL at *
       refine ryz 18 (some 59) (fun K hK => ?_) ?_
       ·skip
        refine anyH_append rfl _ _ 38 rfl _ _ rfl rfl _ (run_append_rs (w0:=w0) hRq (grow_step kW hbr) ⟨pv,sN,aN,lN,cN,pz / ((gcdL 0 qs : Nat) : Int)⟩ ⟨wA.heap.size,0,none⟩ hv3 o_m _) ?_
        rintro v5 w8 ⟨cap5,L5,hR5,htk,hmem,hb5,hg5, -⟩
        obtain ⟨ad5,rfl⟩:=hR5.row
        obtain ⟨hgS,y8⟩:=hnext w8 hb5
        refine hK.out _ _ ?_ ?_
        ·(try dsimp only); exact nk2 x1 hpo g0 g1 g2 hbpl hbpo z1 hqo hgS
        clear hK K hHeld; intro hHeld
        (try simp only [pz])
        refine ryz 19 (some 60) (fun K hK => ?_) ?_
        ·go_simp
         refine hK.out _ _ ?_ ?_
         ·(try dsimp only); exact nk2 x1 hpo g0 g1 g2 hbpl hbpo z1 hqo hgS
         clear hK K hHeld; intro hHeld
         (try simp only [pz])
         refine ryz 20 none (fun K hK => ?_) ?_
         ·have f0:=y8.c0
          have f1:=y8.f 0
          go_simp
          have hgS:=gb_trans hgS (gb_set w8 o 0 (.slice ad5 (t + 1) cap5))
          refine hK.out _ _ ?_ ?_
          ·(try dsimp only); exact nk2 x1 hpo g0 g1 g2 hbpl hbpo z1 hqo hgS
          clear hK K hHeld; intro hHeld
          (try simp only [pz])
          refine wpAnyH_done k_f ?_ _
          have y3:=tb_set0 y8 ad5 (t + 1) cap5
          have hR3:=hide (RS.grown (o:=o) (hw0 ▸ hR5 : RS wo.heap.size w8 (.slice ad5 (t + 1) cap5) (t + 1) cap5 L5) (gb_set w8 o 0 (.slice ad5 (t + 1) cap5)) hol)
          have ok5 : Rok Fw w8 (B + n + 4) L5:=fun y hy => by
           rcases hmem y hy with h | rfl | rfl
           ·exact ⟨rs_zn hRq hg5 (hokq y h).1,(hokq y h).2⟩
           ·exact ⟨rs_zn hRq hg5 hN,by show lN≤_; omega,hv⟩
           exact zr_ok _ _
          have hok3 : Hid (Rok Fw (w8.setCell ⟨o,0,none⟩ (.slice ad5 (t + 1) cap5)) (B + n + 4) L5):=ok5.grownU (gb_set w8 o 0 (.slice ad5 (t + 1) cap5)) (tb_noU y8)
          have hlays3 : Hid ((L5.take (t + 1)).map Raw.p = mapP (fun x => x / ((gcdL 0 qs : Nat) : Int)) (qs.take (t + 1))):=(show _ = _ by rw [htk,List.map_append,hps.out,mapP_snoc,hlays.out]; rfl)
          replace hgS:=hide hgS
          clear hHeld hR5 ok5 hmem htk hb5 hg5 y8 hRq hokq hN yr hv3 kW kA hbr hnext
          go_wp2_with fail
          exact ⟨⟨t + 1,ad5,cap5,L5,by omega,by go_num,y3,hR3,hok3,hlays3,hgS⟩,by simp [intOf]; omega⟩
         exact AllReadyH.nil
        exact AllReadyH.nil
       exact AllReadyH.nil
      exact AllReadyH.nil
     exact AllReadyH.nil
    exact AllReadyH.nil
   refine AllReadyH.cons (o:=⟨some 56,_,_,_,_,_⟩) rfl (fun K hK => ?_) ?_
   ·go_simp
    go_at_call 123; refine Calls.mono (rfloor6_n (hz3.below kW) (hd3.below kW) o_m o_m hpos9) ?_; rintro e wA ⟨sN,aN,lN,cN,rfl,hN,kA,hlN⟩
    have yr:=yr.below kA
    have hRq:=hRq.below kA
    have hokq:=hokq.below kA
    have kW:=grow_step kA kW
    (try go_wp2_with fail)
    refine hK.out _ _ ?_ ?_
    ·(try dsimp only); exact nk2 x1 hpo g0 g1 g2 hbpl hbpo z1 hqo (gb_below hg.out kW)
    clear hK K hHeld; intro hHeld
    (try simp only [pz])
    refine wpAnyH_ready (rs:=[1,16]) k_f (by simp) ?_
    refine AllReadyH.cons (o:=⟨some 42,_,_,_,_,_⟩) rfl (fun K hK => ?_) ?_
    ·have f0:=yr.c0
     go_simp
     refine hK.out _ _ ?_ ?_
     ·(try dsimp only); exact nk2 x1 hpo g0 g1 g2 hbpl hbpo z1 hqo (gb_below hg.out kW)
     clear hK K hHeld; intro hHeld
     (try simp only [pz])
     refine ryz 16 (some 57) (fun K hK => ?_) ?_
     ·go_simp
      refine hK.out _ _ ?_ ?_
      ·(try dsimp only); exact nk2 x1 hpo g0 g1 g2 hbpl hbpo z1 hqo (gb_below hg.out kW)
      clear hK K hHeld; intro hHeld
      (try simp only [pz])
      refine ryz 17 (some 58) (fun K hK => ?_) ?_
      ·have kL:=below_alloc (wA) (.cells #[.int .i64 pv,.bool sN,.slice aN lN cN] 69)
       have yr:=yr.below kL
       have hRq:=hRq.below kL
       have hokq:=hokq.below kL
       have hN:=hN.below kL
       have hv3:=v3_new wA pv sN aN lN cN
       have kW:=grow_step kL kW
       go_simp
       refine hK.out _ _ ?_ ?_
       ·(try dsimp only); exact nk2 x1 hpo g0 g1 g2 hbpl hbpo z1 hqo (gb_below hg.out kW)
       clear hK K hHeld; intro hHeld
       (try simp only [pz])
       generalize (wA).alloc (.cells #[.int .i64 pv,.bool sN,.slice aN lN cN] 69) = wL at *
       refine ryz 18 (some 59) (fun K hK => ?_) ?_
       ·skip
        refine anyH_append rfl _ _ 38 rfl _ _ rfl rfl _ (run_append_rs (w0:=w0) hRq (grow_step kW hbr) ⟨pv,sN,aN,lN,cN,pz / ((gcdL 0 qs : Nat) : Int)⟩ ⟨wA.heap.size,0,none⟩ hv3 o_m _) ?_
        rintro v5 w8 ⟨cap5,L5,hR5,htk,hmem,hb5,hg5, -⟩
        obtain ⟨ad5,rfl⟩:=hR5.row
        obtain ⟨hgS,y8⟩:=hnext w8 hb5
        refine hK.out _ _ ?_ ?_
        ·(try dsimp only); exact nk2 x1 hpo g0 g1 g2 hbpl hbpo z1 hqo hgS
        clear hK K hHeld; intro hHeld
        (try simp only [pz])
        refine ryz 19 (some 60) (fun K hK => ?_) ?_
        ·go_simp
         refine hK.out _ _ ?_ ?_
         ·(try dsimp only); exact nk2 x1 hpo g0 g1 g2 hbpl hbpo z1 hqo hgS
         clear hK K hHeld; intro hHeld
         (try simp only [pz])
         refine ryz 20 none (fun K hK => ?_) ?_
         ·have f0:=y8.c0
          have f1:=y8.f 0
          go_simp
          have hgS:=gb_trans hgS (gb_set w8 o 0 (.slice ad5 (t + 1) cap5))
          refine hK.out _ _ ?_ ?_
          ·(try dsimp only); exact nk2 x1 hpo g0 g1 g2 hbpl hbpo z1 hqo hgS
          clear hK K hHeld; intro hHeld
          (try simp only [pz])
          refine wpAnyH_done k_f ?_ _
          have y3:=tb_set0 y8 ad5 (t + 1) cap5
          have hR3:=hide (RS.grown (o:=o) (hw0 ▸ hR5 : RS wo.heap.size w8 (.slice ad5 (t + 1) cap5) (t + 1) cap5 L5) (gb_set w8 o 0 (.slice ad5 (t + 1) cap5)) hol)
          have ok5 : Rok Fw w8 (B + n + 4) L5:=fun y hy => by
           rcases hmem y hy with h | rfl | rfl
           ·exact ⟨rs_zn hRq hg5 (hokq y h).1,(hokq y h).2⟩
           ·exact ⟨rs_zn hRq hg5 hN,by show lN≤_; omega,hv⟩
           exact zr_ok _ _
          have hok3 : Hid (Rok Fw (w8.setCell ⟨o,0,none⟩ (.slice ad5 (t + 1) cap5)) (B + n + 4) L5):=ok5.grownU (gb_set w8 o 0 (.slice ad5 (t + 1) cap5)) (tb_noU y8)
          have hlays3 : Hid ((L5.take (t + 1)).map Raw.p = mapP (fun x => x / ((gcdL 0 qs : Nat) : Int)) (qs.take (t + 1))):=(show _ = _ by rw [htk,List.map_append,hps.out,mapP_snoc,hlays.out]; rfl)
          replace hgS:=hide hgS
          clear hHeld hR5 ok5 hmem htk hb5 hg5 y8 hRq hokq hN yr hv3 kW kA hbr hnext
          go_wp2_with fail
          exact ⟨⟨t + 1,ad5,cap5,L5,by omega,by go_num,y3,hR3,hok3,hlays3,hgS⟩,by simp [intOf]; omega⟩
         exact AllReadyH.nil
        exact AllReadyH.nil
       exact AllReadyH.nil
      exact AllReadyH.nil
     exact AllReadyH.nil
    refine AllReadyH.cons (o:=⟨some 57,_,_,_,_,_⟩) rfl (fun K hK => ?_) ?_
    ·go_simp
     refine hK.out _ _ ?_ ?_
     ·(try dsimp only); exact nk2 x1 hpo g0 g1 g2 hbpl hbpo z1 hqo (gb_below hg.out kW)
     clear hK K hHeld; intro hHeld
     (try simp only [pz])
     refine wpAnyH_ready (rs:=[1,17]) k_f (by simp) ?_
     refine AllReadyH.cons (o:=⟨some 42,_,_,_,_,_⟩) rfl (fun K hK => ?_) ?_
     ·have f0:=yr.c0
      go_simp
      refine hK.out _ _ ?_ ?_
      ·(try dsimp only); exact nk2 x1 hpo g0 g1 g2 hbpl hbpo z1 hqo (gb_below hg.out kW)
      clear hK K hHeld; intro hHeld
      (try simp only [pz])
      refine ryz 17 (some 58) (fun K hK => ?_) ?_
      ·have kL:=below_alloc (wA) (.cells #[.int .i64 pv,.bool sN,.slice aN lN cN] 69)
       have yr:=yr.below kL
       have hRq:=hRq.below kL
       have hokq:=hokq.below kL
       have hN:=hN.below kL
       have hv3:=v3_new wA pv sN aN lN cN
       have kW:=grow_step kL kW
       go_simp
       refine hK.out _ _ ?_ ?_
       ·(try dsimp only); exact nk2 x1 hpo g0 g1 g2 hbpl hbpo z1 hqo (gb_below hg.out kW)
       clear hK K hHeld; intro hHeld
       (try simp only [pz])
       generalize (wA).alloc (.cells #[.int .i64 pv,.bool sN,.slice aN lN cN] 69) = wL at *
       refine ryz 18 (some 59) (fun K hK => ?_) ?_
       ·skip
        refine anyH_append rfl _ _ 38 rfl _ _ rfl rfl _ (run_append_rs (w0:=w0) hRq (grow_step kW hbr) ⟨pv,sN,aN,lN,cN,pz / ((gcdL 0 qs : Nat) : Int)⟩ ⟨wA.heap.size,0,none⟩ hv3 o_m _) ?_
        rintro v5 w8 ⟨cap5,L5,hR5,htk,hmem,hb5,hg5, -⟩
        obtain ⟨ad5,rfl⟩:=hR5.row
        obtain ⟨hgS,y8⟩:=hnext w8 hb5
        refine hK.out _ _ ?_ ?_
        ·(try dsimp only); exact nk2 x1 hpo g0 g1 g2 hbpl hbpo z1 hqo hgS
        clear hK K hHeld; intro hHeld
        (try simp only [pz])
        refine ryz 19 (some 60) (fun K hK => ?_) ?_
        ·go_simp
         refine hK.out _ _ ?_ ?_
         ·(try dsimp only); exact nk2 x1 hpo g0 g1 g2 hbpl hbpo z1 hqo hgS
         clear hK K hHeld; intro hHeld
         (try simp only [pz])
         refine ryz 20 none (fun K hK => ?_) ?_
         ·have f0:=y8.c0
          have f1:=y8.f 0
          go_simp
          have hgS:=gb_trans hgS (gb_set w8 o 0 (.slice ad5 (t + 1) cap5))
          refine hK.out _ _ ?_ ?_
          ·(try dsimp only); exact nk2 x1 hpo g0 g1 g2 hbpl hbpo z1 hqo hgS
          clear hK K hHeld; intro hHeld
          (try simp only [pz])
          refine wpAnyH_done k_f ?_ _
          have y3:=tb_set0 y8 ad5 (t + 1) cap5
          have hR3:=hide (RS.grown (o:=o) (hw0 ▸ hR5 : RS wo.heap.size w8 (.slice ad5 (t + 1) cap5) (t + 1) cap5 L5) (gb_set w8 o 0 (.slice ad5 (t + 1) cap5)) hol)
          have ok5 : Rok Fw w8 (B + n + 4) L5:=fun y hy => by
           rcases hmem y hy with h | rfl | rfl
           ·exact ⟨rs_zn hRq hg5 (hokq y h).1,(hokq y h).2⟩
           ·exact ⟨rs_zn hRq hg5 hN,by show lN≤_; omega,hv⟩
           exact zr_ok _ _
          have hok3 : Hid (Rok Fw (w8.setCell ⟨o,0,none⟩ (.slice ad5 (t + 1) cap5)) (B + n + 4) L5):=ok5.grownU (gb_set w8 o 0 (.slice ad5 (t + 1) cap5)) (tb_noU y8)
          have hlays3 : Hid ((L5.take (t + 1)).map Raw.p = mapP (fun x => x / ((gcdL 0 qs : Nat) : Int)) (qs.take (t + 1))):=(show _ = _ by rw [htk,List.map_append,hps.out,mapP_snoc,hlays.out]; rfl)
          replace hgS:=hide hgS
          clear hHeld hR5 ok5 hmem htk hb5 hg5 y8 hRq hokq hN yr hv3 kW kA hbr hnext
          go_wp2_with fail
          exact ⟨⟨t + 1,ad5,cap5,L5,by omega,by go_num,y3,hR3,hok3,hlays3,hgS⟩,by simp [intOf]; omega⟩
         exact AllReadyH.nil
        exact AllReadyH.nil
       exact AllReadyH.nil
      exact AllReadyH.nil
     refine AllReadyH.cons (o:=⟨some 58,_,_,_,_,_⟩) rfl (fun K hK => ?_) ?_
     ·have kL:=below_alloc (wA) (.cells #[.int .i64 pv,.bool sN,.slice aN lN cN] 69)
      have yr:=yr.below kL
      have hRq:=hRq.below kL
      have hokq:=hokq.below kL
      have hN:=hN.below kL
      have hv3:=v3_new wA pv sN aN lN cN
      have kW:=grow_step kL kW
      go_simp
      refine hK.out _ _ ?_ ?_
      ·(try dsimp only); exact nk2 x1 hpo g0 g1 g2 hbpl hbpo z1 hqo (gb_below hg.out kW)
      clear hK K hHeld; intro hHeld
      (try simp only [pz])
      generalize (wA).alloc (.cells #[.int .i64 pv,.bool sN,.slice aN lN cN] 69) = wL at *
      refine ryz 1 (some 42) (fun K hK => ?_) ?_
      ·have f0:=yr.c0
       go_simp
       refine hK.out _ _ ?_ ?_
       ·(try dsimp only); exact nk2 x1 hpo g0 g1 g2 hbpl hbpo z1 hqo (gb_below hg.out kW)
       clear hK K hHeld; intro hHeld
       (try simp only [pz])
       refine ryz 18 (some 59) (fun K hK => ?_) ?_
       ·skip
        refine anyH_append rfl _ _ 38 rfl _ _ rfl rfl _ (run_append_rs (w0:=w0) hRq (grow_step kW hbr) ⟨pv,sN,aN,lN,cN,pz / ((gcdL 0 qs : Nat) : Int)⟩ ⟨wA.heap.size,0,none⟩ hv3 o_m _) ?_
        rintro v5 w8 ⟨cap5,L5,hR5,htk,hmem,hb5,hg5, -⟩
        obtain ⟨ad5,rfl⟩:=hR5.row
        obtain ⟨hgS,y8⟩:=hnext w8 hb5
        refine hK.out _ _ ?_ ?_
        ·(try dsimp only); exact nk2 x1 hpo g0 g1 g2 hbpl hbpo z1 hqo hgS
        clear hK K hHeld; intro hHeld
        (try simp only [pz])
        refine ryz 19 (some 60) (fun K hK => ?_) ?_
        ·go_simp
         refine hK.out _ _ ?_ ?_
         ·(try dsimp only); exact nk2 x1 hpo g0 g1 g2 hbpl hbpo z1 hqo hgS
         clear hK K hHeld; intro hHeld
         (try simp only [pz])
         refine ryz 20 none (fun K hK => ?_) ?_
         ·have f0:=y8.c0
          have f1:=y8.f 0
          go_simp
          have hgS:=gb_trans hgS (gb_set w8 o 0 (.slice ad5 (t + 1) cap5))
          refine hK.out _ _ ?_ ?_
          ·(try dsimp only); exact nk2 x1 hpo g0 g1 g2 hbpl hbpo z1 hqo hgS
          clear hK K hHeld; intro hHeld
          (try simp only [pz])
          refine wpAnyH_done k_f ?_ _
          have y3:=tb_set0 y8 ad5 (t + 1) cap5
          have hR3:=hide (RS.grown (o:=o) (hw0 ▸ hR5 : RS wo.heap.size w8 (.slice ad5 (t + 1) cap5) (t + 1) cap5 L5) (gb_set w8 o 0 (.slice ad5 (t + 1) cap5)) hol)
          have ok5 : Rok Fw w8 (B + n + 4) L5:=fun y hy => by
           rcases hmem y hy with h | rfl | rfl
           ·exact ⟨rs_zn hRq hg5 (hokq y h).1,(hokq y h).2⟩
           ·exact ⟨rs_zn hRq hg5 hN,by show lN≤_; omega,hv⟩
           exact zr_ok _ _
          have hok3 : Hid (Rok Fw (w8.setCell ⟨o,0,none⟩ (.slice ad5 (t + 1) cap5)) (B + n + 4) L5):=ok5.grownU (gb_set w8 o 0 (.slice ad5 (t + 1) cap5)) (tb_noU y8)
          have hlays3 : Hid ((L5.take (t + 1)).map Raw.p = mapP (fun x => x / ((gcdL 0 qs : Nat) : Int)) (qs.take (t + 1))):=(show _ = _ by rw [htk,List.map_append,hps.out,mapP_snoc,hlays.out]; rfl)
          replace hgS:=hide hgS
          clear hHeld hR5 ok5 hmem htk hb5 hg5 y8 hRq hokq hN yr hv3 kW kA hbr hnext
          go_wp2_with fail
          exact ⟨⟨t + 1,ad5,cap5,L5,by omega,by go_num,y3,hR3,hok3,hlays3,hgS⟩,by simp [intOf]; omega⟩
         exact AllReadyH.nil
        exact AllReadyH.nil
       exact AllReadyH.nil
      exact AllReadyH.nil
     exact AllReadyH.nil
    exact AllReadyH.nil
   exact AllReadyH.nil
  obtain rfl : n1 = t:=by omega
  have hlen:=hP7.out.1
  have hall : (L'.take n1).map Raw.p = mapP (fun x => x / ((gcdL 0 qs : Nat) : Int)) qs:=by rw [hlays.out,List.take_of_length_le o_m]
  have hne9 : ∀ q ∈ qs,q.2 / ((gcdL 0 qs : Nat) : Int) ≠ 0:=fun q hq e => by
   have h9:=Int.mul_ediv_cancel' ((gcdL_dvd 0 qs).2 q hq)
   rw [e,Int.mul_zero] at h9
   exact hS.out.2 q hq h9.symm
  have hpn:=rs_pn hR.out hok.out
  rw [hall,← eachP_mapP (F:=fun x => x / ((gcdL 0 qs : Nat) : Int)) hne9] at hpn
  have hzr:=hzC.grownU hg.out (tb_noU yo)
  have hro : r ≠ o:=by omega
  have hrw : r < wo.heap.size:=by have:=hk7.out.size; omega
  have yr0 : AB wr r 0 false none 0 0 none 0 0 false none 0 0:=(hg.out.block r hrw (by simpa using hro)).trans y1
  have hwo : w.heap.size≤o:=by have:=hp.out; omega
  have hbr : Below w.heap.size w wr:=below_grown hbo.out hg.out hwo
  have hnew : ∀ b off,ad' = some ⟨b,off,none⟩→wo.heap.size≤b:=fun b off e => by
   rcases hR.out with ⟨h1,_⟩ | ⟨g9,h1,hg9,_⟩
   ·simp at h1
    rw [h1.1] at e
    cases e
   simp at h1
   rw [h1] at e
   simp at e
   omega
  have g6:=ab_set wr r (.int .i64 2) (.bool false) (.slice none 0 0) (.slice ad' n1 cap') (.bool sC) (.slice aC lC cC)
  have hF : Hid (lessF qs k = ⟨2,0,eachP (fun x => x / ((gcdL 0 qs : Nat) : Int)) qs,(k - 1) / ((gcdL 0 qs : Nat) : Int) + 1⟩):=(show _ = _ by
   unfold lessF
   rw [if_neg (fun e => h0 (by rw [← hlen,e]; rfl))])
  have HH:=hide (And.intro (ab_fin yr0 2 false none 0 0 ad' n1 cap' sC aC lC cC) (And.intro (hpn.away (fun b off e => by have h9:=hnew b off e; omega) g6 (ab_noU yr0)) (And.intro (hzr.grownU g6 (ab_noU yr0)) (And.intro (below_grown hbr g6 (show w.heap.size≤r by have:=hp.out; omega)) (fun b off e => Nat.le_trans hbo.out.size (hnew b off e) : ∀ b off,ad' = some ⟨b,off,none⟩→w.heap.size≤b)))))
  have e1:=yr.c1
  have e2:=yr.c2
  have i0:=yr0.c0
  have i1:=yr0.c1
  have i2:=yr0.c2
  have i3:=yr0.c3
  have i4:=yr0.c4
  have i5:=yr0.c5
  have j0:=yr0.f 0
  have j1:=yr0.f 1
  have j2:=yr0.f 2
  have j3:=yr0.f 3
  have j4:=yr0.f 4
  have j5:=yr0.f 5
  clear hall hne9 hpn hzr hro yr0 hbr hnew g6 hR hok hlays hg hP7 hk7 hbo yo hzC hd z1 y1 x1 yr xr
  go_wp2
  obtain ⟨yf,hPf,hzf,kf,hnf⟩:=HH.out
  refine bodyPost_ret (results_cell_row rfl _ _ r 42 _ (0,0) _ rfl yf Tryz.underlying42 rfl k_f) rfl ?_
  refine ⟨?_,kf⟩
  rw [hqs.out,hF.out]
  exact ⟨false,none,0,0,ad',n1,cap',sC,aC,lC,cC,by simp,zn_zero _,by omega,hPf.mono o_m,by omega,hzf,by omega,hnf⟩
def AE (Fw : Nat) (w : World) (e : Ending) (f : Atm) (B B0 : Nat) : Prop :=
 ∃ sd ad ld cd ap np cp sk ak lk ck,e = .returned (.tuple #[.agg #[.int .i64 f.kind,.bool sd,.slice ad ld cd,.slice ap np cp,.bool sk,.slice ak lk ck],.int .i64 0])∧Zn Fw w sd ad ld cd f.d∧ld≤B∧Pn Fw w ap np f.ps B∧np≤B∧Zn Fw w sk ak lk ck f.k∧lk≤B∧∀ b off,ap = some ⟨b,off,none⟩→B0≤b
def RP (Fw : Nat) (w : World) (e : Ending) (kind d : Int) (qs : List (Int × Int)) (k : Int) (B B0 : Nat) : Prop:=(d = 0∧AZ e 11) ∨ (d ≠ 0∧AE Fw w e (divF kind d qs k) B B0)
theorem rsame6_n {s1 : Bool} {a1 : Option Addr} {l1 c1 : Nat} {z1 z2 : Int} (h1 : Zm Fw w s1 a1 l1 c1 z1) (h2 : Zm Fw w s2 a2 l2 c2 z2) (hl1 : l1≤1099511627776) (hl2 : l2≤1099511627776) :
  Calls Tryz.prog 80 #[.agg #[.bool s1,.slice a1 l1 c1],.agg #[.bool s2,.slice a2 l2 c2]] w fun e w' => e = .returned (.bool (cmpI z1 z2 == 0))∧Below w.heap.size w w':=Go.Proofs.YtcfmkjegolpgaaaGreatDoor.rsame6_n h1.old h2.old hl1 hl2
theorem rcmp2_n {s1 : Bool} {a1 : Option Addr} {l1 c1 : Nat} {z1 z2 : Int} (h1 : Zm Fw w s1 a1 l1 c1 z1) (h2 : Zm Fw w s2 a2 l2 c2 z2) (hl1 : l1≤1099511627776) (hl2 : l2≤1099511627776) :
  Calls Tryz.prog 134 #[.agg #[.bool s1,.slice a1 l1 c1],.agg #[.bool s2,.slice a2 l2 c2]] w fun e w' => e = .returned (.int .i64 (cmpI z1 z2))∧Below w.heap.size w w':=Go.Proofs.YtcfmkjegolpgaaaGreatDoor.rcmp2_n h1.old h2.old hl1 hl2
theorem rorder5_n {k : Int} {ad2 : Option Addr} {n2 cp2 : Nat} {qs : List (Int × Int)} {k2 : Int} (hP : Pr Fw w ad n ps B) (hz : Zm Fw w s a l c k) (hl : l≤B) (hP2 : Pr Fw w ad2 n2 qs B) (hz2 : Zm Fw w s2 a2 l2 c2 k2) (hl2 : l2≤B) (hB : B + n≤268435456) (hB2 : B + n2≤268435456) :
  Calls Tryz.prog 78 #[.agg #[.slice ad n cp,.bool s,.slice a l c],.agg #[.slice ad2 n2 cp2,.bool s2,.slice a2 l2 c2]] w fun e w' => e = .returned (.int .i64 (ordT (nz (lays [] ps)) (nz (lays [] qs)) k k2))∧Below w.heap.size w w':=by
 go_enter Tryz.func78,Tryz.ntmps78
 go_wp2_with fail
 have y:=tb_new (w.alloc (.cells #[.slice ad n cp,.bool s,.slice a l c] 40)) ad2 n2 cp2 s2 a2 l2 c2
 have b0 : Below w.heap.size w ((w.alloc (.cells #[.slice ad n cp,.bool s,.slice a l c] 40)).alloc (.cells #[.slice ad2 n2 cp2,.bool s2,.slice a2 l2 c2] 40)):=below_alloc' (below_alloc _ _) _
 rw [show (w.alloc (.cells #[.slice ad n cp,.bool s,.slice a l c] 40)).heap.size = w.heap.size + 1 from by simp] at y
 generalize (w.alloc (.cells #[.slice ad n cp,.bool s,.slice a l c] 40)).alloc (.cells #[.slice ad2 n2 cp2,.bool s2,.slice a2 l2 c2] 40) = wb at *
 generalize w.heap.size + 1 = q at *
 refine (rnorm5_n (hP.below b0) (hz.below b0) hl o_m o_m).mono ?_
 rintro e w1 ⟨ad1,n1,cp1,s1,a1,l1,c1,rfl,hT, -,k1,hn1⟩
 have kx:=grow_alloc (grow_step k1 b0) (.cells #[.slice ad1 n1 cp1,.bool s1,.slice a1 l1 c1] 40)
 have x:=tb_new w1 ad1 n1 cp1 s1 a1 l1 c1
 have ka:=below_alloc w1 (.cells #[.slice ad1 n1 cp1,.bool s1,.slice a1 l1 c1] 40)
 replace hT:=hT.below ka
 have y1:=(y.below k1).below ka
 replace hP2:=hP2.below kx
 replace hz2:=hz2.below kx
 replace kx:=hide kx
 have y0:=y1.c0
 have yy1:=y1.c1
 have yy2:=y1.c2
 replace x:=hide x
 replace hT:=hide hT
 clear ka k1 b0 y hP hz
 go_wp2_with fail
 replace x:=x.out
 replace hT:=hT.out
 generalize w1.alloc (.cells #[.slice ad1 n1 cp1,.bool s1,.slice a1 l1 c1] 40) = wx at *
 generalize w1.heap.size = p at *
 refine (rnorm5_n hP2 hz2 hl2 o_m o_m).mono ?_
 rintro e w3 ⟨ad3,n3,cp3,s3,a3,l3,c3,rfl,hT3, -,k3,hn3⟩
 have kz:=hide (grow_alloc (grow_step k3 kx.out) (.cells #[.slice ad3 n3 cp3,.bool s3,.slice a3 l3 c3] 40))
 have ka:=below_alloc w3 (.cells #[.slice ad3 n3 cp3,.bool s3,.slice a3 l3 c3] 40)
 have z:=tb_new w3 ad3 n3 cp3 s3 a3 l3 c3
 replace x:=(x.below k3).below ka
 replace hT:=(hT.below k3).below ka
 replace hT3:=hT3.below ka
 clear ka k3 kx y0 yy1 yy2 y1 hP2 hz2
 replace x:=hide x
 replace z:=hide z
 replace hT:=hide hT
 replace hT3:=hide hT3
 go_wp2_with fail
 replace x:=x.out
 replace hT:=hT.out
 replace z:=z.out
 replace hT3:=hT3.out
 generalize w3.alloc (.cells #[.slice ad3 n3 cp3,.bool s3,.slice a3 l3 c3] 40) = wz at *
 generalize w3.heap.size = r at *
 obtain ⟨us,hus⟩ : ∃ us,nz (lays [] ps) = us:=⟨_,rfl⟩
 obtain ⟨vs,hvs⟩ : ∃ vs,nz (lays [] qs) = vs:=⟨_,rfl⟩
 rw [hus] at hT
 rw [hvs] at hT3
 have hans : Hid (ordT (nz (lays [] ps)) (nz (lays [] qs)) k k2 = ordT us vs k k2):=(show _ = _ by rw [hus,hvs])
 clear hus hvs
 obtain ⟨⟨hu,hU⟩,hk,hlk⟩:=hT
 obtain ⟨⟨hv,hV⟩,hk3,hlk3⟩:=hT3
 go_loopw [7] (fun i wr => ∃ t : Nat,t≤n1∧t≤n3∧i = .int .i64 t∧Hid (ordL us vs = ordL (us.drop t) (vs.drop t))∧Below wz.heap.size wz wr) (fun i _ => n1 - (intOf i).toNat)
 case atStart => exact ⟨0,Nat.zero_le _,Nat.zero_le _,rfl,by show _ = _; simp,Below.refl _ _⟩
 case round =>
  obtain ⟨t,ht,ht3,rfl,hord,kr⟩:=hrel
  have xr:=x.below kr
  have zr:=z.below kr
  have x0:=xr.c0
  have z0:=zr.c0
  by_cases htn : t < n1∧t < n3
  ·obtain ⟨htn,htn3⟩:=htn
   rcases hU with hU | ⟨b1,o1,rfl,hU⟩
   ·omega
   rcases hV with hV | ⟨b2,o2,rfl,hV⟩
   ·omega
   obtain ⟨s5,a5,l5,c5,e0,e1,e2,hz5,hl5,hv5⟩:=(hU.below kr).2 t o_m
   obtain ⟨s6,a6,l6,c6,f0,f1,f2,hz6,hl6,hv6⟩:=(hV.below kr).2 t o_m
   have hdrop:=hide (ordL_drop (ps:=us) (qs:=vs) (t:=t) o_m o_m)
   generalize us[t] = pp at *
   generalize vs[t] = qq at *
   obtain ⟨pv,pz⟩:=pp
   obtain ⟨qv,qz⟩:=qq
   dsimp only at *
   by_cases hne : pv = qv
   ·subst hne
    have hcz : Hid (ordQ (pv,pz) (pv,qz) = cmpI pz qz):=(show _ = _ by simp [ordQ,cmpI_self])
    go_wp2_with fail
    go_quiet (fail)
    have kq:=hide (grow_drewN kr nq)
    have x0' : (wr.drewN nq).cell? ⟨p,0,none⟩ = _:=x0
    have z0' : (wr.drewN nq).cell? ⟨r,0,none⟩ = _:=z0
    have e1' : (wr.drewN nq).cell? ⟨b1,o1 + t * 3 + 1,none⟩ = _:=e1
    have e2' : (wr.drewN nq).cell? ⟨b1,o1 + t * 3 + 2,none⟩ = _:=e2
    have f1' : (wr.drewN nq).cell? ⟨b2,o2 + t * 3 + 1,none⟩ = _:=f1
    have f2' : (wr.drewN nq).cell? ⟨b2,o2 + t * 3 + 2,none⟩ = _:=f2
    have g5:=hz5.below (below_drewN _ _ nq)
    have g6:=hz6.below (below_drewN _ _ nq)
    clear x0 z0 e1 e2 f1 f2 e0 f0 hz5 hz6
    have hpl : p < (wr.drewN nq).heap.size:=xr.lt
    have hrl : r < (wr.drewN nq).heap.size:=zr.lt
    have h1l : b1 < (wr.drewN nq).heap.size:=(hU.below kr).1
    have h2l : b2 < (wr.drewN nq).heap.size:=(hV.below kr).1
    generalize wr.drewN nq = wq at *
    replace g5:=hide g5
    replace g6:=hide g6
    clear hU hV
    go_wp2_with fail
    go_region_held3 (fun w' => w'.cell? ⟨p,0,none⟩ = some (.slice (some ⟨b1,o1,none⟩) n1 cp1)∧w'.cell? ⟨r,0,none⟩ = some (.slice (some ⟨b2,o2,none⟩) n3 cp3)∧w'.cell? ⟨b1,o1 + t * 3 + 1,none⟩ = some (.bool s5)∧w'.cell? ⟨b1,o1 + t * 3 + 2,none⟩ = some (.slice a5 l5 c5)∧w'.cell? ⟨b2,o2 + t * 3 + 1,none⟩ = some (.bool s6)∧w'.cell? ⟨b2,o2 + t * 3 + 2,none⟩ = some (.slice a6 l6 c6)∧Below wq.heap.size wq w')
     ((refine ek6 x0' hpl z0' hrl e1' e2' h1l f1' f2' h2l ?_; (with_reducible repeat' first | exact Below.refl _ _ | assumption | refine grow_step (by assumption) ?_ | refine grow_drew ?_ | refine grow_alloc ?_ _ | refine grow_drewN ?_ _)))
     ((go_at_call 134; refine (rcmp2_n (g5.out.below gw) (g6.out.below gw) o_m o_m).mono ?_; rintro e w7 ⟨rfl,k7⟩))
    all_goals
     have kf : RowKit.Below wq.heap.size wq w7:=by (repeat' (first | with_reducible exact Below.refl _ _ | with_reducible assumption | (go_split_ands; with_reducible assumption) | with_reducible refine grow_step (by with_reducible assumption) ?_ | with_reducible refine grow_drew ?_ | with_reducible refine grow_alloc ?_ _ | with_reducible refine grow_drewN ?_ _))
     have kg:=hide (grow_step kf kq.out)
     by_cases hc0 : cmpI pz qz = 0
     ·have hnext:=hide (hord.out.trans (hdrop.out.trans (by rw [if_neg (by rw [hcz.out]; simp [hc0])])))
      rw [hc0]
      go_wp2_with fail
      exact ⟨⟨t + 1,by omega,by omega,by go_num,hnext,kg.out⟩,by simp [intOf]; omega⟩
     have hval:=hide (hans.out.trans (show ordT us vs k k2 = cmpI pz qz by
      have e1 : ordL us vs = cmpI pz qz:=hord.out.trans (hdrop.out.trans (by rw [if_pos (by rw [hcz.out]; exact hc0)]; exact hcz.out))
      unfold ordT
      rw [e1,if_pos hc0]))
     generalize cmpI pz qz = cc at *
     go_wp2
     go_ret
     exact ⟨ret_int hval.out.symm,grow_step kg.out kz.out⟩
   have hcz : Hid (ordQ (pv,pz) (qv,qz) = cmpI pv qv∧cmpI pv qv ≠ 0):=(by
    have h0 : cmpI pv qv ≠ 0:=by unfold cmpI; split <;> (try split) <;> omega
    exact hide ⟨by simp [ordQ,h0],h0⟩)
   have hval : Hid (ordT us vs k k2 = cmpI pv qv):=(show _ = _ by
    have e1 : ordL us vs = cmpI pv qv:=hord.out.trans (hdrop.out.trans (by rw [if_pos (by rw [hcz.out.1]; exact hcz.out.2)]; exact hcz.out.1))
    unfold ordT
    rw [e1,if_pos hcz.out.2])
   by_cases hlt : pv < qv
   ·have hv9 : Hid (ordT (nz (lays [] ps)) (nz (lays [] qs)) k k2 = -1):=(show _ = _ by rw [hans.out,hval.out]; unfold cmpI; rw [if_pos hlt])
    go_wp2_with fail
    go_quiet (fail)
    go_wp2_with fail
    go_quiet (fail)
    go_wp2
    go_ret
    exact ⟨ret_int hv9.out.symm,grow_step ((below_drewN _ _ _).trans (below_drewN _ _ _)) (grow_step kr kz.out)⟩
   have hv9 : Hid (ordT (nz (lays [] ps)) (nz (lays [] qs)) k k2 = 1):=(show _ = _ by rw [hans.out,hval.out]; unfold cmpI; rw [if_neg hlt,if_pos o_m])
   go_wp2_with fail
   go_quiet (fail)
   go_wp2_with fail
   go_quiet (fail)
   go_wp2
   go_ret
   exact ⟨ret_int hv9.out.symm,grow_step ((below_drewN _ _ _).trans (below_drewN _ _ _)) (grow_step kr kz.out)⟩
  have x1:=xr.c1
  have x2:=xr.c2
  have z1:=zr.c1
  have z2:=zr.c2
  have kend:=hide (grow_step kr kz.out)
  have hk':=hide (hk.below kr)
  have hk3':=hide (hk3.below kr)
  clear hU hV hk hk3
  by_cases ht1 : t < n1
  ·have ht2 : ¬ t < n3:=fun h => htn ⟨ht1,h⟩
   have hne : n1 ≠ n3:=by omega
   have hval:=hide (hans.out.trans (show ordT us vs k k2 = 1 by
    have e1 : ordL us vs = 1:=hord.out.trans (ordL_left o_m o_m)
    unfold ordT
    rw [e1]; simp))
   have hge : ¬ n1 < n3:=by omega
   go_wp2
   go_ret
   exact ⟨ret_int hval.out.symm,kend.out⟩
  by_cases ht2 : t < n3
  ·have hne : n1 ≠ n3:=by omega
   have hval:=hide (hans.out.trans (show ordT us vs k k2 = -1 by
    have e1 : ordL us vs = -1:=hord.out.trans (ordL_right o_m o_m)
    unfold ordT
    rw [e1]; simp))
   have hlt : n1 < n3:=by omega
   go_wp2
   go_ret
   exact ⟨ret_int hval.out.symm,kend.out⟩
  obtain rfl : n1 = n3:=by omega
  have hval:=hide (hans.out.trans (show ordT us vs k k2 = cmpI k k2 by
   have e1 : ordL us vs = 0:=hord.out.trans (ordL_both o_m o_m)
   unfold ordT
   rw [e1]; simp))
  go_wp2_with fail
  refine (rcmp2_n hk'.out hk3'.out o_m o_m).mono ?_
  rintro e w7 ⟨rfl,k7⟩
  replace k7:=hide (grow_step k7 kend.out)
  go_wp2
  go_ret
  exact ⟨ret_int hval.out.symm,k7.out⟩
end Go.Proofs.YtcfmkjegolpgaaaGreatDoor.Low
