/-
 Layer 5: does a term stand as it should? The readings; Valid.
-/
import Derived.Test.YtcfmkjegolpgaaaGreatDoorP16
import Derived.Test.YtcfmkjegolpgaaaGreatDoorP21
namespace Go.Proofs.YtcfmkjegolpgaaaGreatDoor
open Go.RowKit Go.Sort Go.Shelf
open Tm

variable {w : World} {n l c : Nat} {xs : List Int} {s : Bool} {a : Option Addr}
abbrev gx (X : List (Int × Bool × List Int)) (i : Nat) : Int × Bool × List Int:=X.getD i (0,false,[])
def PX (w : World) (ad : Option Addr) (n : Nat) (X : List (Int × Bool × List Int)) (B : Nat) : Prop :=
 X.length = n∧(n = 0 ∨ ∃ b off,ad = some ⟨b,off,none⟩∧b < w.heap.size∧∀ i,i < n→∃ a l c,w.cell? ⟨b,off + i * 3,none⟩ = some (.int .i64 (gx X i).1)∧w.cell? ⟨b,off + i * 3 + 1,none⟩ = some (.bool (gx X i).2.1)∧w.cell? ⟨b,off + i * 3 + 2,none⟩ = some (.slice a l c)∧Rd w a l c (gx X i).2.2∧l≤B∧I64 (gx X i).1)
theorem PX.below {w' : World} {ad : Option Addr} {X : List (Int × Bool × List Int)} {B : Nat} (h : PX w ad n X B) (hb : Below w.heap.size w w') : PX w' ad n X B:=by
 refine ⟨h.1,?_⟩
 rcases h.2 with h2 | ⟨b,off,e,hlt,h2⟩
 ·exact .inl h2
 refine .inr ⟨b,off,e,Nat.lt_of_lt_of_le hlt hb.size,fun i hi => ?_⟩
 obtain ⟨a,l,c,e0,e1,e2,hr,hl,hv⟩:=h2 i hi
 exact ⟨a,l,c,(hb.cell (p:=⟨b,off + i * 3,none⟩) hlt).trans e0,(hb.cell (p:=⟨b,off + i * 3 + 1,none⟩) hlt).trans e1,(hb.cell (p:=⟨b,off + i * 3 + 2,none⟩) hlt).trans e2,hr.below hb,hl,hv⟩
theorem gx_map {α : Type} {f : α→Int × Bool × List Int} {L : List α} {i : Nat} (h : i < L.length) : gx (L.map f) i = f L[i]:=by
 simp [List.getElem?_eq_getElem h]
theorem gx_range {f : Nat→Int × Bool × List Int} {i : Nat} (h : i < n) : gx ((List.range n).map f) i = f i:=by
 rw [gx_map (by simpa using h)]; simp
def okX (x : Int × Bool × List Int) : Prop:=StandsB x.2.1 x.2.2.length x.2.2 = true∧val x.2.2 ≠ 0
def VX (X : List (Int × Bool × List Int)) : Prop:=∀ i,i < X.length→okX (gx X i)∧(0 < i→(gx X (i - 1)).1 < (gx X i).1)

theorem canon_tl (h : Canon xs) (hl : xs.length = l) : tl xs l = l:=by
 have h1:=canon_inj (canon_trim h.1) h (val_trim xs)
 have h2:=congrArg List.length h1
 unfold trim at h2
 rw [List.length_take,hl] at h2
 have:=tl_le xs l
 omega
theorem Zn.stands {z : Int} (h : Zn w s a l c z) : ∃ xs,Rd w a l c xs∧StandsB s l xs = true∧sg s (val xs) = z:=by
 obtain ⟨n,⟨xs,hr,hc,hv⟩,hz,hs⟩:=h
 have e:=canon_tl hc hr.1
 refine ⟨xs,hr,?_,by rw [hv,hz]⟩
 unfold StandsB
 rw [e]
 cases s
 ·simp
 have h0:=hs rfl
 have : 0 < l:=by
  rw [← hr.1]
  apply Nat.pos_of_ne_zero
  intro e0
  have:=List.length_eq_zero_iff.1 e0
  subst this
  exact h0 (hv.symm.trans rfl)
 simp [this]
theorem sg_zero {n : Int} : sg s n = 0 ↔ n = 0:=by cases s <;> simp [sg]

theorem zm_rd (h : Rd w a l c xs) : Zm w s a l c (sg s (val xs)):=⟨_,⟨xs,h,rfl⟩,rfl⟩
theorem cmp_sg {n : Int} : cmpI (sg s n) 0 = 0 ↔ n = 0:=by
 unfold cmpI sg
 cases s <;> simp <;> omega
theorem tb9_new (w : World) (ad : Option Addr) (n cp : Nat) (s : Bool) (a : Option Addr) (l c : Nat) : (w.alloc (.cells #[.slice ad n cp,.bool s,.slice a l c] 40)).heap[w.heap.size]? = some (.cells #[.slice ad n cp,.bool s,.slice a l c] 40 (0,0)):=heap_alloc_new w _
set_option maxRecDepth 100000 in
set_option maxHeartbeats 3200000 in
theorem rvalid5_n {ad : Option Addr} {cp : Nat} {X : List (Int × Bool × List Int)} {B : Nat} (hX : PX w ad n X B) (hr : Rd w a l c xs) (hl : l≤B) (hn : n≤536870912) (hB : B≤1099511627776) :
  Calls Tryz.prog 77 #[.agg #[.slice ad n cp,.bool s,.slice a l c]] w fun e w' => ∃ b,e = .returned (.bool b)∧(b = true ↔ VX X∧StandsB s l xs = true)∧Below w.heap.size w w':=by
 go_enter Tryz.func77,Tryz.ntmps77
 go_wp2_with fail
 have x:=tb9_new w ad n cp s a l c
 have b0:=below_alloc w (.cells #[.slice ad n cp,.bool s,.slice a l c] 40)
 replace hX:=hX.below b0
 replace hr:=hr.below b0
 generalize w.alloc (.cells #[.slice ad n cp,.bool s,.slice a l c] 40) = wb at *
 generalize hp : w.heap.size = q at *
 replace b0 : Hid (Below w.heap.size w wb):=hp ▸ b0
 replace hp:=hide hp
 obtain ⟨hXn,hX⟩:=hX
 have hq : q < wb.heap.size:=(Array.getElem?_eq_some_iff.1 x).1
 refine (rvalid_n (s:=s) hr o_m).mono ?_
 rintro e w1 ⟨rfl,k1⟩
 replace hr:=hide hr
 have fine : Hid (StandsB s l xs = StandsB s l xs):=(show _ = _ from rfl)
 generalize hfine : StandsB s l xs = bf at *
 replace hfine:=hide hfine
 clear fine
 go_wp2_with fail
 go_loopw [4] (fun i wr => ∃ t : Nat,t≤n∧i = .int .i64 t∧Hid (∀ j,j < t→okX (gx X j)∧(0 < j→(gx X (j - 1)).1 < (gx X j).1))∧Below wb.heap.size wb wr) (fun i _ => n - (intOf i).toNat)
 case atStart => exact ⟨0,Nat.zero_le _,rfl,(fun j hj => absurd hj o_m),k1⟩
 case round =>
  obtain ⟨t,ht,rfl,hok,kr⟩:=hrel
  have xr : wr.heap[q]? = _:=(kr.block q hq).trans x
  have x0 : wr.cell? ⟨q,0,none⟩ = some _:=cell_of_row wr q 0 _ _ (0,0) xr
  by_cases htn : t < n
  ·rcases hX with hX | ⟨b,off,rfl,hb,hX⟩
   ·omega
   obtain ⟨a5,l5,c5,e0,e1,e2,hr5,hl5,hv5⟩:=hX t htn
   have d0:=(kr.cell (p:=⟨b,off + t * 3,none⟩) hb).trans e0
   have d1:=(kr.cell (p:=⟨b,off + t * 3 + 1,none⟩) hb).trans e1
   have d2:=(kr.cell (p:=⟨b,off + t * 3 + 2,none⟩) hb).trans e2
   generalize hpp : gx X t = pp at *
   obtain ⟨pv,ps,pxs⟩:=pp
   replace hpp:=hide hpp
   dsimp only at *
   go_wp2_with fail
   refine (rvalid_n (s:=ps) (hr5.below kr) o_m).mono ?_
   rintro e w5 ⟨rfl,k5⟩
   have k6:=hide (grow_step k5 kr)
   clear d0 d1 d2 x0 kr k5
   have x5:=cell_of_row w5 q 0 _ _ (0,0) ((k6.out.block q hq).trans x)
   have d0:=(k6.out.cell (p:=⟨b,off + t * 3,none⟩) hb).trans e0
   have d1:=(k6.out.cell (p:=⟨b,off + t * 3 + 1,none⟩) hb).trans e1
   have d2:=(k6.out.cell (p:=⟨b,off + t * 3 + 2,none⟩) hb).trans e2
   generalize hst : StandsB ps l5 pxs = st at *
   replace hst:=hide hst
   go_wp2_with fail
   refine (rsign_n (zm_rd (s:=ps) (hr5.below k6.out)) o_m).mono ?_
   rintro e w7 ⟨rfl,k7⟩
   have k8:=hide (grow_step k7 k6.out)
   clear d0 d1 d2 x5 k6 k7
   have x7:=cell_of_row w7 q 0 _ _ (0,0) ((k8.out.block q hq).trans x)
   have d0:=(k8.out.cell (p:=⟨b,off + t * 3,none⟩) hb).trans e0
   have d1:=(k8.out.cell (p:=⟨b,off + t * 3 + 1,none⟩) hb).trans e1
   have d2:=(k8.out.cell (p:=⟨b,off + t * 3 + 2,none⟩) hb).trans e2
   have hrl:=hr5.1
   go_wp2_with fail
   have hend : ∀ q' : Nat,Hid (Below w.heap.size w (w7.drewN q')):=fun q' => b0.out.trans ((grow_drewN k8.out q').mono b0.out.size)
   cases st with
   | false =>
    have hno:=hide (show ¬ VX X from fun h => by have:=(h t o_m).1.1; rw [hpp.out] at this; simp only at this; rw [hrl,hst.out] at this; cases this)
    replace hend:=hide hend
    go_quiet (fail)
    go_wp2
    go_ret
    exact ⟨false,rfl,by simp [hno.out],(hend.out _).out⟩
   | true =>
    by_cases hvz : val pxs = 0
    ·rw [cmp_sg.2 hvz]
     have hno:=hide (show ¬ VX X from fun h => ((h t o_m).1.2 (by rw [hpp.out]; exact hvz)))
     replace hend:=hide hend
     go_quiet (fail)
     go_wp2
     go_ret
     exact ⟨false,rfl,by simp [hno.out],(hend.out _).out⟩
    have hcz : cmpI (sg ps (val pxs)) 0 ≠ 0:=fun h => hvz (cmp_sg.1 h)
    have hoo : Hid (okX (gx X t)):=(by rw [hpp.out]; exact hide (⟨by simp only; rw [hrl]; exact hst.out,hvz⟩ : okX (pv,ps,pxs)))
    have hc2 : cmpI (sg ps (val pxs)) 0 = 1 ∨ cmpI (sg ps (val pxs)) 0 = -1:=by revert hcz; unfold cmpI; split <;> (try split) <;> simp
    clear hcz hvz
    rcases hc2 with hc2 | hc2 <;> rw [hc2] <;> clear hc2
    ·skip
     by_cases h0 : t = 0
     ·subst h0
      simp only [Nat.zero_mul,Nat.add_zero] at d0 d1 d2
      have hall : Hid (∀ j,j < 0 + 1→okX (gx X j)∧(0 < j→(gx X (j - 1)).1 < (gx X j).1)):=(fun j hj => by
       obtain rfl : j = 0:=by omega
       exact ⟨hoo.out,fun h => by omega⟩)
      clear hend
      go_quiet (fail)
      have k9:=hide (grow_drewN k8.out nq)
      go_wp2_with fail
      exact ⟨⟨0 + 1,by omega,by go_num,hall,k9.out⟩,by simp [intOf]; omega⟩
     obtain ⟨m,rfl⟩ : ∃ m,t = m + 1:=⟨t - 1,by omega⟩
     obtain ⟨a9,l9,c9,g0, -, -, -, -, -⟩:=hX m o_m
     replace g0:=(k8.out.cell (p:=⟨b,off + m * 3,none⟩) hb).trans g0
     generalize hqq : (gx X m).1 = qv at *
     replace hqq:=hide hqq
     by_cases hlt : qv < pv
     ·have hall : Hid (∀ j,j < m + 1 + 1→okX (gx X j)∧(0 < j→(gx X (j - 1)).1 < (gx X j).1)):=(fun j hj => by
       rcases Nat.lt_or_ge j (m + 1) with h | h
       ·exact hok.out j h
       obtain rfl : j = m + 1:=by omega
       exact ⟨hoo.out,fun _ => by rw [hpp.out,show m + 1 - 1 = m by omega,hqq.out]; exact hlt⟩)
      clear hend
      go_quiet (fail)
      have k9:=hide (grow_drewN k8.out nq)
      go_wp2_with fail
      exact ⟨⟨m + 1 + 1,by omega,by go_num,hall,k9.out⟩,by simp [intOf]; omega⟩
     have hno:=hide (show ¬ VX X from fun h => hlt (by have:=(h (m + 1) o_m).2 o_m; rw [hpp.out,show m + 1 - 1 = m by omega,hqq.out] at this; exact this))
     replace hend:=hide hend
     go_quiet (fail)
     go_wp2
     go_ret
     exact .inl ⟨rfl,fun h => absurd h hno.out,(hend.out _).out⟩
    skip
    by_cases h0 : t = 0
    ·subst h0
     simp only [Nat.zero_mul,Nat.add_zero] at d0 d1 d2
     have hall : Hid (∀ j,j < 0 + 1→okX (gx X j)∧(0 < j→(gx X (j - 1)).1 < (gx X j).1)):=(fun j hj => by
      obtain rfl : j = 0:=by omega
      exact ⟨hoo.out,fun h => by omega⟩)
     clear hend
     go_quiet (fail)
     have k9:=hide (grow_drewN k8.out nq)
     go_wp2_with fail
     exact ⟨⟨0 + 1,by omega,by go_num,hall,k9.out⟩,by simp [intOf]; omega⟩
    obtain ⟨m,rfl⟩ : ∃ m,t = m + 1:=⟨t - 1,by omega⟩
    obtain ⟨a9,l9,c9,g0, -, -, -, -, -⟩:=hX m o_m
    replace g0:=(k8.out.cell (p:=⟨b,off + m * 3,none⟩) hb).trans g0
    generalize hqq : (gx X m).1 = qv at *
    replace hqq:=hide hqq
    by_cases hlt : qv < pv
    ·have hall : Hid (∀ j,j < m + 1 + 1→okX (gx X j)∧(0 < j→(gx X (j - 1)).1 < (gx X j).1)):=(fun j hj => by
      rcases Nat.lt_or_ge j (m + 1) with h | h
      ·exact hok.out j h
      obtain rfl : j = m + 1:=by omega
      exact ⟨hoo.out,fun _ => by rw [hpp.out,show m + 1 - 1 = m by omega,hqq.out]; exact hlt⟩)
     clear hend
     go_quiet (fail)
     have k9:=hide (grow_drewN k8.out nq)
     go_wp2_with fail
     exact ⟨⟨m + 1 + 1,by omega,by go_num,hall,k9.out⟩,by simp [intOf]; omega⟩
    have hno:=hide (show ¬ VX X from fun h => hlt (by have:=(h (m + 1) o_m).2 o_m; rw [hpp.out,show m + 1 - 1 = m by omega,hqq.out] at this; exact this))
    replace hend:=hide hend
    go_quiet (fail)
    go_wp2
    go_ret
    exact .inl ⟨rfl,fun h => absurd h hno.out,(hend.out _).out⟩
  obtain rfl : t = n:=by omega
  go_wp2
  go_ret
  exact ⟨_,rfl,⟨fun h => ⟨fun i hi => hok.out i o_m,hfine.out.trans h⟩,fun h => hfine.out.symm.trans h.2⟩,b0.out.trans (kr.mono b0.out.size)⟩
end Go.Proofs.YtcfmkjegolpgaaaGreatDoor
