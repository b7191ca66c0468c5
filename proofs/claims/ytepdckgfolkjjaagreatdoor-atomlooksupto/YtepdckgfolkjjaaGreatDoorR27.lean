/-
 Layer 5,the reference: Eval.
-/
import Derived.Test.YtepdckgfolkjjaaGreatDoorR21
namespace Go.Proofs.YtepdckgfolkjjaaGreatDoor
open Go.RowKit Go.Sort Go.Shelf
open Tm

theorem csum_std_mem {qs : List (Int × Int)} (h : Std qs) {q : Int × Int} (hq : q ∈ qs) : csum qs q.1 = q.2:=by
 induction qs with
 | nil => cases hq
 | cons p qs ih =>
  rcases List.mem_cons.1 hq with rfl | hq
  ·exact std_head h
  ·have h1:=(List.pairwise_cons.1 h.1).1 q hq
   have:=ih ⟨(List.pairwise_cons.1 h.1).2,fun r hr => h.2 r (by simp [hr])⟩ hq
   simp only [csum]
   rw [if_neg (by omega),this]
   omega
theorem fv_first : ∀ {vs : List (Int × Int)} {m : Nat} {v : Int} (hm : m < vs.length),(∀ i (h : i < vs.length),i < m→(vs[i]).1 ≠ v)→(vs[m]).1 = v→fv vs v = some (vs[m]).2
 | p :: vs,0,v,hm,_,h => by simp at h; simp [fv,h]
 | p :: vs,m + 1,v,hm,h1,h => by
  have h0:=h1 0 (by simp) (by omega)
  simp at h0
  have:=fv_first (vs:=vs) (m:=m) (v:=v) (by simpa using hm) (fun i hi him => by have:=h1 (i + 1) (by simpa using hi) (by omega); rwa [List.getElem_cons_succ] at this) (by simpa using h)
  simp [fv,h0,this]
theorem fv_nowhere {vs : List (Int × Int)} {v : Int} (h : ∀ i (h : i < vs.length),(vs[i]).1 ≠ v) : fv vs v = none:=by
 induction vs with
 | nil => rfl
 | cons p vs ih =>
  have h0:=h 0 (by simp)
  simp at h0
  simp [fv,h0,ih (fun i hi => by have:=h (i + 1) (by simpa using hi); rwa [List.getElem_cons_succ] at this)]
theorem ek {wr w' : World} {b0 b1 b2 i0 i1 i2 : Nat} {v0 v1 v2 : Value} (h0 : wr.cell? ⟨b0,i0,none⟩ = some v0) (l0 : b0 < wr.heap.size) (h1 : wr.cell? ⟨b1,i1,none⟩ = some v1) (l1 : b1 < wr.heap.size) (h2 : wr.cell? ⟨b2,i2,none⟩ = some v2) (l2 : b2 < wr.heap.size) (k : Below wr.heap.size wr w') :
  w'.cell? ⟨b0,i0,none⟩ = some v0∧w'.cell? ⟨b1,i1,none⟩ = some v1∧w'.cell? ⟨b2,i2,none⟩ = some v2∧Below wr.heap.size wr w' :=
 ⟨(k.cell (p:=⟨b0,i0,none⟩) l0).trans h0,(k.cell (p:=⟨b1,i1,none⟩) l1).trans h1,(k.cell (p:=⟨b2,i2,none⟩) l2).trans h2,k⟩

theorem gb_refl (w : World) (m : Nat) : w.grownBy w (some m):=⟨rfl,rfl,rfl,Nat.le_refl _,fun _ _ _ => rfl⟩
theorem ek5 {wl w' : World} {o u b1 b2 i0 i1 i2 i3 i4 : Nat} {v0 v1 v2 v3 v4 : Value} (h0 : wl.cell? ⟨o,i0,none⟩ = some v0) (l0 : o < wl.heap.size) (n0 : o ≠ u) (h1 : wl.cell? ⟨b1,i1,none⟩ = some v1) (h2 : wl.cell? ⟨b1,i2,none⟩ = some v2) (l1 : b1 < wl.heap.size) (n1 : b1 ≠ u) (h3 : wl.cell? ⟨b2,i3,none⟩ = some v3) (h4 : wl.cell? ⟨b2,i4,none⟩ = some v4) (l2 : b2 < wl.heap.size) (n2 : b2 ≠ u) (hg : wl.grownBy w' (some u)) :
  w'.cell? ⟨o,i0,none⟩ = some v0∧w'.cell? ⟨b1,i1,none⟩ = some v1∧w'.cell? ⟨b1,i2,none⟩ = some v2∧w'.cell? ⟨b2,i3,none⟩ = some v3∧w'.cell? ⟨b2,i4,none⟩ = some v4∧wl.grownBy w' (some u):=by
 have h : ∀ b i,b < wl.heap.size→b ≠ u→w'.cell? ⟨b,i,none⟩ = wl.cell? ⟨b,i,none⟩:=fun b i hb hbu => by
  have:=hg.block b hb (by simpa using hbu)
  unfold World.cell?
  rw [this]
 exact ⟨(h _ _ l0 n0).trans h0,(h _ _ l1 n1).trans h1,(h _ _ l1 n1).trans h2,(h _ _ l2 n2).trans h3,(h _ _ l2 n2).trans h4,hg⟩

set_option maxRecDepth 100000 in
set_option maxHeartbeats 6400000 in
theorem reval_n {w : World} {ad : Option Addr} {n cp : Nat} {s : Bool} {a : Option Addr} {l c : Nat} {ps : List (Int × Int)} {k : Int} {ad2 : Option Addr} {n2 cp2 : Nat} {vs : List (Int × Int)} {B : Nat} (hP : Pr w ad n ps B) (hz : Zm w s a l c k) (hl : l≤B) (hV : Pr w ad2 n2 vs B) (hB : B + n + n2≤268435456) :
  Calls Tryz.prog 45 #[.agg #[.slice ad n cp,.bool s,.slice a l c],.slice ad2 n2 cp2] w fun e w' => ∃ s' a' l' c' er,e = .returned (.tuple #[.agg #[.bool s',.slice a' l' c'],.int .i64 er])∧Below w.heap.size w w'∧((¬ Tot ps vs∧er = 170∧s' = false∧a' = none∧l' = 0∧c' = 0) ∨ (Tot ps vs∧er = 0∧Zn w' s' a' l' c' (k + ev ps (val1 vs))∧l'≤2 * B + 2 * n + 3)):=by
 go_enter Tryz.func45,Tryz.ntmps45
 go_wp2_with fail
 have y:=zb_new (w.alloc (.cells #[.slice ad n cp,.bool s,.slice a l c] 27)) false none 0 0
 have b0 : Below w.heap.size w ((w.alloc (.cells #[.slice ad n cp,.bool s,.slice a l c] 27)).alloc (.cells #[.bool false,.slice none 0 0] 24)):=below_alloc' (below_alloc _ _) _
 rw [show (w.alloc (.cells #[.slice ad n cp,.bool s,.slice a l c] 27)).heap.size = w.heap.size + 1 from by simp] at y
 generalize (w.alloc (.cells #[.slice ad n cp,.bool s,.slice a l c] 27)).alloc (.cells #[.bool false,.slice none 0 0] 24) = wb at *
 refine (rnorm5_n (hP.below b0) (hz.below b0) hl (by omega) (by omega)).mono ?_
 rintro e w1 ⟨ad1,n1,cp1,s1,a1,l1,c1,rfl,hT,hz1,k1,hn1⟩
 have yr:=y.below k1
 have hV1:=(hV.below b0).below k1
 have hb1:=hide (b0.trans (k1.mono b0.size))
 have hwr : Hid (w.heap.size < w.heap.size + 1∧w.heap.size + 1 < w1.heap.size):=⟨by omega,yr.lt⟩
 generalize hp : w.heap.size = p at *
 generalize p + 1 = r at *
 replace hp:=hide hp
 clear y b0 k1 hP hz hV
 go_wp2_with fail
 have ko : Below w1.heap.size w1 ((w1.alloc (.cells #[.slice ad1 n1 cp1,.bool s1,.slice a1 l1 c1] 27)).alloc (.cells #[.bool s1,.slice a1 l1 c1] 24)):=below_alloc' (below_alloc _ _) _
 have yo:=(tb_new w1 ad1 n1 cp1 s1 a1 l1 c1).below (below_alloc _ (.cells #[.bool s1,.slice a1 l1 c1] 24))
 have zu:=zb_new (w1.alloc (.cells #[.slice ad1 n1 cp1,.bool s1,.slice a1 l1 c1] 27)) s1 a1 l1 c1
 rw [show (w1.alloc (.cells #[.slice ad1 n1 cp1,.bool s1,.slice a1 l1 c1] 27)).heap.size = w1.heap.size + 1 from by simp] at zu
 generalize (w1.alloc (.cells #[.slice ad1 n1 cp1,.bool s1,.slice a1 l1 c1] 27)).alloc (.cells #[.bool s1,.slice a1 l1 c1] 24) = ws at *
 have hQ:=hide hT.1
 have hl1:=hT.2.2
 have hcs : Hid (∀ v,csum (nz (lays [] ps)) v = csum ps v):=fun v => by rw [csum_nz,csum_lays]; simp [csum]
 have hstd : Hid (Std (nz (lays [] ps))):=std_nz (rise_lays ps List.Pairwise.nil)
 generalize nz (lays [] ps) = qs at *
 replace hV1:=hide hV1
 have hou : Hid (w1.heap.size≤w1.heap.size∧w1.heap.size < w1.heap.size + 1):=⟨Nat.le_refl _,Nat.lt_succ_self _⟩
 generalize hwo : w1.heap.size = o at *
 generalize o + 1 = u at *
 replace hwo:=hide hwo
 clear hT
 go_loopw [8] (fun i wr => ∃ (t : Nat) (s3 : Bool) (a3 : Option Addr) (l3 c3 : Nat),t≤n1∧i = .int .i64 t∧TB wr o ad1 n1 cp1 s1 a1 l1 c1∧ZB wr u s3 a3 l3 c3∧Hid (Zn wr s3 a3 l3 c3 (k + ev (qs.take t) (val1 vs)))∧l3≤2 * B + n + 1 + t∧Hid (∀ q ∈ qs.take t,fv vs q.1 ≠ none)∧Hid (Below o w1 wr)) (fun i _ => n1 - (intOf i).toNat)
 case atStart => exact ⟨0,s1,a1,l1,c1,Nat.zero_le _,rfl,yo,zu,hide (by simpa [ev] using hz1.below (hwo.out ▸ ko)),by omega,(fun q hq => absurd hq (by simp)),ko⟩
 case round =>
  obtain ⟨t,s3,a3,l3,c3,ht,rfl,yq,zq,hz3,hl3,hall,k3⟩:=hrel
  have e0:=yq.c0
  by_cases htn : t < n1
  ·obtain ⟨hqn,hQr⟩:=hQ.out
   rcases hQr with hQr | ⟨bq,fq,rfl,hQr⟩
   ·omega
   ·have hbqu : bq ≠ u:=by have:=hQr.1; have:=hwo.out; have:=hou.out; omega
    have hou' : o ≠ u:=by have:=hou.out; omega
    replace hQr:=hQr.below (hwo.out ▸ k3.out)
    have hbq:=hQr.1
    obtain ⟨s4,a4,l4,c4,g0,g1,g2,hz4,hl4,hv4⟩:=hQr.2 t (by omega)
    have hps : Hid (qs.take (t + 1) = qs.take t ++ [qs[t]]):=List.take_succ_eq_append_getElem (l:=qs) (i:=t) (by omega)
    have hne : Hid (csum ps (qs[t]).1 ≠ 0):=by
     have:=csum_std_mem hstd.out (List.getElem_mem (show t < qs.length by omega))
     have h2:=hstd.out.2 _ (List.getElem_mem (show t < qs.length by omega))
     rw [hcs.out] at this
     exact hide (by rw [this]; exact h2)
    generalize qs[t] = qq at *
    obtain ⟨qv,qz⟩:=qq
    dsimp only at *
    have hol:=yq.lt
    clear hQr
    have hVr:=hV1.out.below (hwo.out ▸ k3.out)
    replace hVr:=hide hVr
    go_wp2_with fail
    generalize wr = wl at *
    go_loopw [9] (fun j wi => ∃ m : Nat,m≤n2∧j = .int .i64 m∧Hid (∀ i (h : i < vs.length),i < m→(vs[i]).1 ≠ qv)∧Below wl.heap.size wl wi) (fun j _ => n2 - (intOf j).toNat)
    case atStart => exact ⟨0,Nat.zero_le _,rfl,(fun i _ h => absurd h (by omega)),Below.refl _ _⟩
    case round =>
     obtain ⟨m,hm,rfl,hless,ki⟩:=hrel
     by_cases hmn : m < n2
     ·obtain ⟨hvn,hVp⟩:=hVr.out
      rcases hVp with hVp | ⟨bv,f2,rfl,hVp⟩
      ·omega
      ·have hbv:=hVp.1
       have hbvu : bv ≠ u:=by
        rcases hV1.out.2 with h | ⟨b',f',e',h'⟩
        ·omega
        ·cases e'; have:=h'.1; have:=hwo.out; have:=hou.out; omega
       obtain ⟨s5,a5,l5,c5,d0,d1,d2,hz5,hl5,hv5⟩:=hVp.2 m (by omega)
       have hfirst : Hid ((vs[m]).1 = qv→fv vs qv = some (vs[m]).2):=fun h => fv_first (by omega) hless.out h
       have hless' : Hid ((vs[m]).1 ≠ qv→∀ i (h : i < vs.length),i < m + 1→(vs[i]).1 ≠ qv):=fun h i hi him => by
        by_cases e : i = m
        ·subst e; exact h
        ·exact hless.out i hi (by omega)
       generalize vs[m] = vv at *
       obtain ⟨vvv,vvz⟩:=vv
       dsimp only at *
       clear hVp hVr hV1
       go_wp2_with fail
       go_region_held3 (fun w' => w'.cell? ⟨bv,f2 + m * 3,none⟩ = some (.int .i64 vvv)∧w'.cell? ⟨o,0,none⟩ = some (.slice (some ⟨bq,fq,none⟩) n1 cp1)∧w'.cell? ⟨bq,fq + t * 3,none⟩ = some (.int .i64 qv)∧Below wl.heap.size wl w')
        ((refine ek d0 hbv e0 hol g0 hbq ?_; (with_reducible repeat' first | exact Below.refl _ _ | assumption | refine grow_step (by assumption) ?_ | refine grow_drew ?_ | refine grow_alloc ?_ _ | refine grow_drewN ?_ _)))
        (fail)
       rename_i hH
       have kH:=hH.2.2.2
       clear hH ki
       by_cases heq : vvv = qv
       ·subst heq
        have hfv : Hid (fv vs vvv = some vvz):=hfirst.out rfl
        clear hfirst
        go_wp2_with fail
        generalize wr.drew = wd at *
        have kd:=grow_drew kH
        have hd:=gb_below (gb_refl wl u) kd
        have zd:=zq.below kH
        have q0:=zd.c0
        have q1:=zd.c1
        refine wp_region_held_drew (S:=(fun w' => w'.cell? ⟨o,0,none⟩ = some (.slice (some ⟨bq,fq,none⟩) n1 cp1)∧w'.cell? ⟨bq,fq + t * 3 + 1,none⟩ = some (.bool s4)∧w'.cell? ⟨bq,fq + t * 3 + 2,none⟩ = some (.slice a4 l4 c4)∧w'.cell? ⟨bv,f2 + m * 3 + 1,none⟩ = some (.bool s5)∧w'.cell? ⟨bv,f2 + m * 3 + 2,none⟩ = some (.slice a5 l5 c5)∧wl.grownBy w' (some u))) (by kernel_rfl) (ek5 e0 hol hou' g1 g2 hbq hbqu d1 d2 hbv hbvu hd) (fun hHeld => ?_)
        show wpAnyH _ _ _ _ _ 15 _ _ _
        refine wpAnyH_take (i:=1) (oi:=⟨some 47,_,_,_,_,_⟩) (v:=?_) rfl (by kernel_rfl) (by kernel_rfl) (by kernel_rfl) (fun _ _ _ h => h) (Or.inl ⟨by rfl,?_⟩) (by assumption) ?_
        rotate_left
        ·intro wq hSw; (try dsimp only at hSw); go_simp; (try with_reducible rfl)
        (try simp only [Act.put,List.setIfInBounds_toArray,List.set_cons_zero,List.set_cons_succ])
        refine wpAnyH_take (i:=2) (oi:=⟨some 48,_,_,_,_,_⟩) (v:=?_) rfl (by kernel_rfl) (by kernel_rfl) (by kernel_rfl) (fun _ _ _ h => h) (Or.inl ⟨by rfl,?_⟩) (by assumption) ?_
        rotate_left
        ·intro wq hSw; (try dsimp only at hSw); go_simp; (try with_reducible rfl)
        (try simp only [Act.put,List.setIfInBounds_toArray,List.set_cons_zero,List.set_cons_succ])
        refine wpAnyH_take (i:=3) (oi:=⟨some 49,_,_,_,_,_⟩) (v:=?_) rfl (by kernel_rfl) (by kernel_rfl) (by kernel_rfl) (fun _ _ _ h => h) (Or.inl ⟨by rfl,?_⟩) (by assumption) ?_
        rotate_left
        ·intro wq hSw; (try dsimp only at hSw); go_simp; (try with_reducible rfl)
        (try simp only [Act.put,List.setIfInBounds_toArray,List.set_cons_zero,List.set_cons_succ])
        refine wpAnyH_take (i:=4) (oi:=⟨some 50,_,_,_,_,_⟩) (v:=?_) rfl (by kernel_rfl) (by kernel_rfl) (by kernel_rfl) (fun _ _ _ h => h) (Or.inl ⟨by rfl,?_⟩) (by assumption) ?_
        rotate_left
        ·intro wq hSw; (try dsimp only at hSw); go_simp; (try with_reducible rfl)
        (try simp only [Act.put,List.setIfInBounds_toArray,List.set_cons_zero,List.set_cons_succ])
        refine wpAnyH_take (i:=5) (oi:=⟨some 51,_,_,_,_,_⟩) (v:=?_) rfl (by kernel_rfl) (by kernel_rfl) (by kernel_rfl) (fun _ _ _ h => h) (Or.inl ⟨by rfl,?_⟩) (by assumption) ?_
        rotate_left
        ·intro wq hSw; (try dsimp only at hSw); go_simp; (try with_reducible rfl)
        (try simp only [Act.put,List.setIfInBounds_toArray,List.set_cons_zero,List.set_cons_succ])
        refine wpAnyH_take (i:=6) (oi:=⟨some 52,_,_,_,_,_⟩) (v:=?_) rfl (by kernel_rfl) (by kernel_rfl) (by kernel_rfl) (fun _ _ _ h => h) (Or.inl ⟨by rfl,?_⟩) (by assumption) ?_
        rotate_left
        ·intro wq hSw; (try dsimp only at hSw); go_simp; (try with_reducible rfl)
        (try simp only [Act.put,List.setIfInBounds_toArray,List.set_cons_zero,List.set_cons_succ])
        refine wpAnyH_take (i:=7) (oi:=⟨some 53,_,_,_,_,_⟩) (v:=?_) rfl (by kernel_rfl) (by kernel_rfl) (by kernel_rfl) (fun _ _ _ h => h) (Or.inl ⟨by rfl,?_⟩) (by assumption) ?_
        rotate_left
        ·intro wq hSw; (try dsimp only at hSw); go_simp; (try with_reducible rfl)
        (try simp only [Act.put,List.setIfInBounds_toArray,List.set_cons_zero,List.set_cons_succ])
        refine wpAnyH_take (i:=8) (oi:=⟨some 54,_,_,_,_,_⟩) (v:=?_) rfl (by kernel_rfl) (by kernel_rfl) (by kernel_rfl) (fun _ _ _ h => h) (Or.inl ⟨by rfl,?_⟩) (by assumption) ?_
        rotate_left
        ·intro wq hSw; (try dsimp only at hSw); go_simp; (try with_reducible rfl)
        (try simp only [Act.put,List.setIfInBounds_toArray,List.set_cons_zero,List.set_cons_succ])
        refine wpAnyH_take (i:=9) (oi:=⟨some 55,_,_,_,_,_⟩) (v:=?_) rfl (by kernel_rfl) (by kernel_rfl) (by kernel_rfl) (fun _ _ _ h => h) (Or.inl ⟨by rfl,?_⟩) (by assumption) ?_
        rotate_left
        ·intro wq hSw; (try dsimp only at hSw); go_simp; (try with_reducible rfl)
        (try simp only [Act.put,List.setIfInBounds_toArray,List.set_cons_zero,List.set_cons_succ])
        refine wpAnyH_take (i:=10) (oi:=⟨some 56,_,_,_,_,_⟩) (v:=?_) rfl (by kernel_rfl) (by kernel_rfl) (by kernel_rfl) (fun _ _ _ h => h) (Or.inl ⟨by rfl,?_⟩) (by assumption) ?_
        rotate_left
        ·intro wq hSw; (try dsimp only at hSw); go_simp; (try with_reducible rfl)
        (try simp only [Act.put,List.setIfInBounds_toArray,List.set_cons_zero,List.set_cons_succ])
        refine wpAnyH_take (i:=11) (oi:=⟨some 57,_,_,_,_,_⟩) (v:=?_) rfl (by kernel_rfl) (by kernel_rfl) (by kernel_rfl) (fun _ _ _ h => h) (Or.inl ⟨by rfl,?_⟩) (by assumption) ?_
        rotate_left
        ·intro wq hSw; (try dsimp only at hSw); go_simp; (try with_reducible rfl)
        (try simp only [Act.put,List.setIfInBounds_toArray,List.set_cons_zero,List.set_cons_succ])
        refine wpAnyH_ready (rs:=[0,12]) (by kernel_rfl) (by simp) ?_
        refine AllReadyH.cons (o:=⟨some 46,_,_,_,_,_⟩) rfl (fun K hK => ?_) ?_
        ·go_simp
         refine hK.out _ _ ?_ ?_
         ·(try dsimp only); (refine ek5 e0 hol hou' g1 g2 hbq hbqu d1 d2 hbv hbvu ?_; assumption)
         clear hK K hHeld; intro hHeld
         (try simp only [Act.put,List.setIfInBounds_toArray,List.set_cons_zero,List.set_cons_succ])
         refine wpAnyH_ready (rs:=[12]) (by kernel_rfl) (by simp) ?_
         refine AllReadyH.cons (o:=⟨some 58,_,_,_,_,_⟩) rfl (fun K hK => ?_) ?_
         ·go_simp
          go_at_call 98; refine (rmul2_n (hz4.below kd) (hz5.below kd) (by omega) (by omega)).mono ?_; rintro e w5 ⟨s7,a7,l7,c7,rfl,hz7,k7,hl7⟩; have kw5:=grow_step k7 kd; have hg5:=gb_below hd k7; have z5:=zq.below kw5; have p0:=z5.c0; have p1:=z5.c1; have p2:=z5.f 0; have p3:=z5.f 1; have hz35:=hz3.out.below kw5
          (try go_wp2_with fail)
          refine hK.out _ _ ?_ ?_
          ·(try dsimp only); (refine ek5 e0 hol hou' g1 g2 hbq hbqu d1 d2 hbv hbvu ?_; assumption)
          clear hK K hHeld; intro hHeld
          (try simp only [Act.put,List.setIfInBounds_toArray,List.set_cons_zero,List.set_cons_succ])
          refine wpAnyH_ready (rs:=[13]) (by kernel_rfl) (by simp) ?_
          refine AllReadyH.cons (o:=⟨some 59,_,_,_,_,_⟩) rfl (fun K hK => ?_) ?_
          ·go_simp
           go_at_call 77; refine (radd2_n hz35.zm hz7.zm (by omega) (by omega)).mono ?_; rintro e w6 ⟨s6,a6,l6,c6,rfl,hz6,k6,hl6⟩; have hg6:=gb_below hg5 k6; have z6:=z5.below k6; have r0:=z6.c0; have r1:=z6.c1; have r2:=z6.f 0; have r3:=z6.f 1; have hg7:=gb_trans hg6 (zb_set w6 u (.bool s6) (.slice a6 l6 c6))
           (try go_wp2_with fail)
           refine hK.out _ _ ?_ ?_
           ·(try dsimp only); (refine ek5 e0 hol hou' g1 g2 hbq hbqu d1 d2 hbv hbvu ?_; assumption)
           clear hK K hHeld; intro hHeld
           (try simp only [Act.put,List.setIfInBounds_toArray,List.set_cons_zero,List.set_cons_succ])
           refine wpAnyH_ready (rs:=[14]) (by kernel_rfl) (by simp) ?_
           refine AllReadyH.cons (o:=⟨none,_,_,_,_,_⟩) rfl (fun K hK => ?_) ?_
           ·go_simp
            refine hK.out _ _ ?_ ?_
            ·(try dsimp only); (refine ek5 e0 hol hou' g1 g2 hbq hbqu d1 d2 hbv hbvu ?_; assumption)
            clear hK K hHeld; intro hHeld
            (try simp only [Act.put,List.setIfInBounds_toArray,List.set_cons_zero,List.set_cons_succ])
            refine wpAnyH_done (by kernel_rfl) ?_ _
            (have y7:=yq.grown hg7 hou'; have z7:=zb_fin z6 s6 a6 l6 c6; have f7:=hide (hz6.grownU (zb_set w6 u (.bool s6) (.slice a6 l6 c6)) (zb_noU z6)); have hev : Hid (Zn ((w6.setCell ⟨u,0,none⟩ (.bool s6)).setCell ⟨u,1,none⟩ (.slice a6 l6 c6)) s6 a6 l6 c6 (k + ev (qs.take (t + 1)) (val1 vs))):=(by have h:=f7.out; rw [hps.out,ev_append]; simp only [ev,val1,hfv.out,Option.getD_some,Int.add_zero]; rw [← Int.add_assoc]; exact hide h); have hall7 : Hid (∀ q ∈ qs.take (t + 1),fv vs q.1 ≠ none):=(fun q hq => by rw [hps.out] at hq; rcases List.mem_append.1 hq with h | h; exact hall.out q h; obtain rfl:=List.mem_singleton.1 h; rw [hfv.out]; simp); have k7' : Hid (Below o w1 ((w6.setCell ⟨u,0,none⟩ (.bool s6)).setCell ⟨u,1,none⟩ (.slice a6 l6 c6))):=(by have h:=below_grown (hwo.out ▸ k3.out : Below w1.heap.size w1 wl) hg7 (by have:=hou.out; have:=hwo.out; omega); rw [hwo.out] at h; exact hide h); clear hHeld hg7 hg6 hg5 hd kd hz6 hz7 hz35 z5 z6 k6 k7 kw5 p0 p1 p2 p3 r0 r1 r2 r3; go_wp2_with fail; exact ⟨⟨t + 1,s6,a6,l6,c6,by omega,by go_num,y7,z7,hev,by omega,hall7,k7'⟩,by simp [intOf]; omega⟩)
           exact AllReadyH.nil
          exact AllReadyH.nil
         exact AllReadyH.nil
        refine AllReadyH.cons (o:=⟨some 58,_,_,_,_,_⟩) rfl (fun K hK => ?_) ?_
        ·go_simp
         go_at_call 98; refine (rmul2_n (hz4.below kd) (hz5.below kd) (by omega) (by omega)).mono ?_; rintro e w5 ⟨s7,a7,l7,c7,rfl,hz7,k7,hl7⟩; have kw5:=grow_step k7 kd; have hg5:=gb_below hd k7; have z5:=zq.below kw5; have p0:=z5.c0; have p1:=z5.c1; have p2:=z5.f 0; have p3:=z5.f 1; have hz35:=hz3.out.below kw5
         (try go_wp2_with fail)
         refine hK.out _ _ ?_ ?_
         ·(try dsimp only); (refine ek5 e0 hol hou' g1 g2 hbq hbqu d1 d2 hbv hbvu ?_; assumption)
         clear hK K hHeld; intro hHeld
         (try simp only [Act.put,List.setIfInBounds_toArray,List.set_cons_zero,List.set_cons_succ])
         refine wpAnyH_ready (rs:=[0]) (by kernel_rfl) (by simp) ?_
         refine AllReadyH.cons (o:=⟨some 46,_,_,_,_,_⟩) rfl (fun K hK => ?_) ?_
         ·go_simp
          refine hK.out _ _ ?_ ?_
          ·(try dsimp only); (refine ek5 e0 hol hou' g1 g2 hbq hbqu d1 d2 hbv hbvu ?_; assumption)
          clear hK K hHeld; intro hHeld
          (try simp only [Act.put,List.setIfInBounds_toArray,List.set_cons_zero,List.set_cons_succ])
          refine wpAnyH_ready (rs:=[13]) (by kernel_rfl) (by simp) ?_
          refine AllReadyH.cons (o:=⟨some 59,_,_,_,_,_⟩) rfl (fun K hK => ?_) ?_
          ·go_simp
           go_at_call 77; refine (radd2_n hz35.zm hz7.zm (by omega) (by omega)).mono ?_; rintro e w6 ⟨s6,a6,l6,c6,rfl,hz6,k6,hl6⟩; have hg6:=gb_below hg5 k6; have z6:=z5.below k6; have r0:=z6.c0; have r1:=z6.c1; have r2:=z6.f 0; have r3:=z6.f 1; have hg7:=gb_trans hg6 (zb_set w6 u (.bool s6) (.slice a6 l6 c6))
           (try go_wp2_with fail)
           refine hK.out _ _ ?_ ?_
           ·(try dsimp only); (refine ek5 e0 hol hou' g1 g2 hbq hbqu d1 d2 hbv hbvu ?_; assumption)
           clear hK K hHeld; intro hHeld
           (try simp only [Act.put,List.setIfInBounds_toArray,List.set_cons_zero,List.set_cons_succ])
           refine wpAnyH_ready (rs:=[14]) (by kernel_rfl) (by simp) ?_
           refine AllReadyH.cons (o:=⟨none,_,_,_,_,_⟩) rfl (fun K hK => ?_) ?_
           ·go_simp
            refine hK.out _ _ ?_ ?_
            ·(try dsimp only); (refine ek5 e0 hol hou' g1 g2 hbq hbqu d1 d2 hbv hbvu ?_; assumption)
            clear hK K hHeld; intro hHeld
            (try simp only [Act.put,List.setIfInBounds_toArray,List.set_cons_zero,List.set_cons_succ])
            refine wpAnyH_done (by kernel_rfl) ?_ _
            (have y7:=yq.grown hg7 hou'; have z7:=zb_fin z6 s6 a6 l6 c6; have f7:=hide (hz6.grownU (zb_set w6 u (.bool s6) (.slice a6 l6 c6)) (zb_noU z6)); have hev : Hid (Zn ((w6.setCell ⟨u,0,none⟩ (.bool s6)).setCell ⟨u,1,none⟩ (.slice a6 l6 c6)) s6 a6 l6 c6 (k + ev (qs.take (t + 1)) (val1 vs))):=(by have h:=f7.out; rw [hps.out,ev_append]; simp only [ev,val1,hfv.out,Option.getD_some,Int.add_zero]; rw [← Int.add_assoc]; exact hide h); have hall7 : Hid (∀ q ∈ qs.take (t + 1),fv vs q.1 ≠ none):=(fun q hq => by rw [hps.out] at hq; rcases List.mem_append.1 hq with h | h; exact hall.out q h; obtain rfl:=List.mem_singleton.1 h; rw [hfv.out]; simp); have k7' : Hid (Below o w1 ((w6.setCell ⟨u,0,none⟩ (.bool s6)).setCell ⟨u,1,none⟩ (.slice a6 l6 c6))):=(by have h:=below_grown (hwo.out ▸ k3.out : Below w1.heap.size w1 wl) hg7 (by have:=hou.out; have:=hwo.out; omega); rw [hwo.out] at h; exact hide h); clear hHeld hg7 hg6 hg5 hd kd hz6 hz7 hz35 z5 z6 k6 k7 kw5 p0 p1 p2 p3 r0 r1 r2 r3; go_wp2_with fail; exact ⟨⟨t + 1,s6,a6,l6,c6,by omega,by go_num,y7,z7,hev,by omega,hall7,k7'⟩,by simp [intOf]; omega⟩)
           exact AllReadyH.nil
          exact AllReadyH.nil
         exact AllReadyH.nil
        exact AllReadyH.nil
       ·go_wp2_with fail
        exact ⟨⟨m + 1,by omega,by go_num,hless'.out heq,kH⟩,by simp [intOf]; omega⟩
     ·obtain rfl : n2 = m:=by omega
      have hno : Hid (¬ Tot ps vs):=fun hT => hT qv hne.out (fv_nowhere (fun i hi => hless.out i hi (by have:=hVr.out.1; omega)))
      go_wp2_with fail
      go_quiet (fail)
      have kq:=grow_drewN ki nq
      generalize wr.drewN nq = wq at *
      have yr3 : ZB wq r false none 0 0:=(yr.below (hwo.out ▸ k3.out)).below kq
      have hbr : Hid (Below w.heap.size w wq):=hp.out.symm ▸ ((hb1.out.trans ((hwo.out ▸ k3.out : Below w1.heap.size w1 wl).mono (by have:=hwr.out; have:=hwo.out; omega))).trans (kq.mono (by have:=hwr.out; have:=hwo.out; have:=(hwo.out ▸ k3.out : Below w1.heap.size w1 wl).size; omega)))
      have hrw : Hid (w.heap.size≤r):=by have:=hwr.out; have:=hp.out; exact (by omega : w.heap.size≤r)
      have j0:=yr3.c0
      have j1:=yr3.c1
      have j2:=yr3.f 0
      have j3:=yr3.f 1
      go_wp2_with fail
      refine bodyPost_ret (results_ct rfl _ _ r 24 _ (0,0) _ rfl (zb_fin yr3 false none 0 0) Tryz.underlying24 rfl (by kernel_rfl)) rfl ?_
      exact ⟨false,none,0,0,170,by simp,(hbr.out.setCell hrw.out _).setCell hrw.out _,.inl ⟨hno.out,rfl,rfl,rfl,rfl,rfl⟩⟩
  ·obtain rfl : n1 = t:=by omega
   have z0:=zq.c0
   have z1:=zq.c1
   have yr3 : ZB wr r false none 0 0:=yr.below (hwo.out ▸ k3.out)
   have j0:=yr3.c0
   have j1:=yr3.c1
   have j2:=yr3.f 0
   have j3:=yr3.f 1
   have hbr : Hid (Below w.heap.size w wr):=hp.out.symm ▸ (hb1.out.trans ((hwo.out ▸ k3.out : Below w1.heap.size w1 wr).mono (by have:=hwr.out; have:=hwo.out; omega)))
   have hnU:=zb_noU yr3
   have fZ:=hide (hz3.out.grownU (zb_set wr r (.bool s3) (.slice a3 l3 c3)) hnU)
   have hrw : Hid (w.heap.size≤r):=by have:=hwr.out; have:=hp.out; exact (by omega : w.heap.size≤r)
   have hqs : Hid (qs.take n1 = qs):=List.take_of_length_le (by have:=hQ.out.1; omega)
   have hTot : Hid (Tot ps vs):=fun v hv => by
    rw [← hcs.out v] at hv
    obtain ⟨q,hq,rfl⟩:=csum_mem hv
    exact hall.out q (hqs.out.symm ▸ hq)
   go_wp2_with fail
   refine bodyPost_ret (results_ct rfl _ _ r 24 _ (0,0) _ rfl (zb_fin yr3 s3 a3 l3 c3) Tryz.underlying24 rfl (by kernel_rfl)) rfl ?_
   refine ⟨s3,a3,l3,c3,0,by simp,(hbr.out.setCell hrw.out _).setCell hrw.out _,.inr ⟨hTot.out,rfl,?_,by omega⟩⟩
   have:=fZ.out
   rw [hqs.out,ev_congr hcs.out] at this
   exact this
end Go.Proofs.YtepdckgfolkjjaaGreatDoor
