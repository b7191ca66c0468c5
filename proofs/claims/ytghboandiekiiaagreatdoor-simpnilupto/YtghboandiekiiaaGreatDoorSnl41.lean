/-
 Several texts in one: JM,JN,JB.
-/
import Derived.Test.YtghboandiekiiaaGreatDoorSnl40
import Derived.Test.YtghboandiekiiaaGreatDoorSnl09
set_option maxRecDepth 100000
set_option maxHeartbeats 1600000
namespace Go.Proofs.YtghboandiekiiaaGreatDoor
open Tm At
namespace Nt

def Dn (L : List Nd) (i y : Int) : Prop:=∀ Q : Int→Prop,Q i→(∀ a b,Q a→okI L a→b ∈ (ndI L a).kids→Q b)→Q y
theorem dn_self (L : List Nd) (i : Int) : Dn L i i:=fun _ h _ => h
theorem dn_kid {L : List Nd} {i a b : Int} (h : Dn L i a) (ho : okI L a) (hb : b ∈ (ndI L a).kids) : Dn L i b:=fun Q h1 h2 => h2 a b (h Q h1 h2) ho hb
theorem dn_up {L : List Nd} {i a b : Int} (ho : okI L i) (ha : a ∈ (ndI L i).kids) (h : Dn L a b) : Dn L i b:=fun Q h1 h2 => h Q (h2 i a h1 ho ha) h2
theorem dn_ok {L : List Nd} (hw : Wk L) {i y : Int} (ho : okI L i) (h : Dn L i y) : okI L y:=h (okI L) ho fun _ _ h1 _ h2 => hw.ok h1 h2
theorem dn_cases {L : List Nd} {i y : Int} (h : Dn L i y) : y = i ∨ (okI L i∧∃ z ∈ (ndI L i).kids,Dn L z y) :=
 h (fun y => y = i ∨ (okI L i∧∃ z ∈ (ndI L i).kids,Dn L z y)) (.inl rfl) fun _ b ha ho hb => ha.elim (fun e => .inr ⟨e ▸ ho,b,e ▸ hb,dn_self L b⟩) fun ⟨h1,z,hz,h2⟩ => .inr ⟨h1,z,hz,dn_kid h2 ho hb⟩
def Her (L : List Nd) (P : Int→Prop) (i : Int) : Prop:=∀ y,Dn L i y→P y
theorem her_iff {L : List Nd} {P : Int→Prop} {i : Int} (ho : okI L i) : Her L P i ↔ P i∧∀ z ∈ (ndI L i).kids,Her L P z :=
 ⟨fun h => ⟨h i (dn_self L i),fun _ hz y hy => h y (dn_up ho hz hy)⟩,fun ⟨h1,h2⟩ y hy => (dn_cases hy).elim (fun e => e ▸ h1) fun ⟨_,_,hz,h⟩ => h2 _ hz y h⟩
theorem dn_app {L t : List Nd} (hw : Wk L) {i y : Int} (ho : okI L i) : Dn (L ++ t) i y ↔ Dn L i y:=by
 constructor
 ·intro h
  refine (h (fun y => okI L y∧Dn L i y) ⟨ho,dn_self L i⟩ fun a b ⟨h1,h2⟩ _ hb => ?_).2
  rw [ndI_app h1] at hb
  exact ⟨hw.ok h1 hb,dn_kid h2 h1 hb⟩
 intro h
 refine (h (fun y => okI L y∧Dn (L ++ t) i y) ⟨ho,dn_self _ i⟩ fun a b ⟨h1,h2⟩ _ hb => ?_).2
 exact ⟨hw.ok h1 hb,dn_kid h2 (okI_app h1) (by rw [ndI_app h1]; exact hb)⟩
theorem her_le {L L' : List Nd} (hw : Wk L) (hl : ∃ t,L' = L ++ t) {P P' : Int→Prop} (hP : ∀ y,okI L y→(P' y ↔ P y)) {i : Int} (ho : okI L i) : Her L' P' i ↔ Her L P i:=by
 obtain ⟨t,rfl⟩:=hl
 exact ⟨fun h y hy => (hP y (dn_ok hw ho hy)).1 (h y ((dn_app hw ho).2 hy)),fun h y hy => (hP y (dn_ok hw ho ((dn_app hw ho).1 hy))).2 (h y ((dn_app hw ho).1 hy))⟩
theorem her_rk {L : List Nd} {P : Int→Prop} {kd : Int} {ids : List Int} (hi : ∀ x ∈ ids,Her L P x) {x : Int} (hx : Rk L kd ids x) : Her L P x :=
 hx (Her L P) hi fun _ z hy ho _ hz => ((her_iff ho).1 hy).2 z hz
theorem putE_node {nn kk : Int} {s : St} {n : Nd} (he : (putE nn kk s n).2.2 = 0) : ndI (putE nn kk s n).1.L (putE nn kk s n).2.1 = n:=by
 rcases putE_cases nn kk s n with ⟨i,g1,e⟩ | ⟨_,er,g1,e,_⟩ | ⟨_,_,_,e⟩
 ·rw [e]
  show (s.L[((i : Int)).toNat]?).getD _ = _
  rw [Int.toNat_natCast,g1]
  rfl
 ·rw [e] at he
  exact absurd he g1
 rw [e]
 show ((s.L ++ [n])[((s.L.length : Int)).toNat]?).getD _ = _
 rw [Int.toNat_natCast]
 simp
theorem actJ_cases {nn kk : Int} {s : St} {kd : Int} {l : List Int} (hkd : kd = 5 ∨ kd = 6) (hl : ∀ x ∈ l,okI s.L x) :
  (l = []∧actJ nn kk s kd l = (s,if kd = 5 then 1 else 0,0)) ∨ (∃ x,(∀ y,y ∈ l ↔ y = x)∧actJ nn kk s kd l = (s,x,0)) ∨ (2≤(ris l).length∧actJ nn kk s kd l = putE nn kk s ⟨kd,0,[],0,0,ris l⟩):=by
 have ha : l.any (lck s.L.length) = false:=by
  rw [List.any_eq_false]
  intro x hx
  rw [okI_lck.2 (hl x hx)]
  simp
 have hm:=mem_ris l
 unfold actJ
 rw [if_neg o_m,ha,if_neg (by simp)]
 split
 ·rename_i e
  rw [e] at hm
  exact .inl ⟨List.eq_nil_iff_forall_not_mem.2 fun x hx => List.not_mem_nil ((hm x).2 hx),rfl⟩
 ·rename_i x e
  rw [e] at hm
  exact .inr (.inl ⟨x,fun y => by rw [← hm y,List.mem_singleton],rfl⟩)
 rename_i x y t e
 rw [e]
 exact .inr (.inr ⟨by simp,rfl⟩)
theorem SimpR.her {nn kk : Int} {s : St} {kd dual idle rul sg : Int} {ids : List Int} {r : St × Int × Int} (h : SimpR nn kk s kd dual idle rul sg ids r) (hkd : kd = 5 ∨ kd = 6) (hr : rul = 0 ∨ rul = 1) (hg : Gv kk s.L) (he : r.2.2 = 0)
  {P P' : Int→Prop} (hP : ∀ y,okI s.L y→(P' y ↔ P y)) (h0 : P 0) (h1 : P 1) (hj : okI r.1.L r.2.1→(ndI r.1.L r.2.1).kind = kd→¬ okI s.L r.2.1 ∨ (∃ l,(∀ x,x ∈ l ↔ Need s.L sg dual (Mem s.L kd idle ids) x)∧(ndI r.1.L r.2.1).kids = ris l)→P' r.2.1) (hi : ∀ x ∈ ids,Her s.L P x) : Her r.1.L P' r.2.1:=by
 have hk:=h.kp hkd hr hg
 have hc : ∀ x,(x = 0 ∨ x = 1)→Her s.L P x:=fun x hx => by
  rcases hx with rfl | rfl
  ·rw [her_iff hg.ok0,hg.n0]; exact ⟨h0,fun z hz => by cases hz⟩
  rw [her_iff hg.ok1,hg.n1]; exact ⟨h1,fun z hz => by cases hz⟩
 rcases h with ⟨_,rfl⟩ | ⟨ho,⟨_,rfl⟩ | ⟨_,l,hl,rfl⟩⟩
 ·cases he
 ·exact (her_le hg.wk hk.le hP (by rcases hr with rfl | rfl; exact hg.ok0; exact hg.ok1)).2 (hc _ hr)
 have hlo : ∀ x ∈ l,okI s.L x:=fun x hx => ((hl x).1 hx).1.1.2.1
 have hlh : ∀ x ∈ l,Her s.L P x:=fun x hx => her_rk hi ((hl x).1 hx).1.1.1
 rcases actJ_cases (nn:=nn) (kk:=kk) hkd hlo with ⟨_,e⟩ | ⟨x,hx,e⟩ | ⟨h2,e⟩
 ·rw [e] at hk ⊢
  refine (her_le hg.wk hk.le hP ?_).2 (hc _ ?_)
  ·simp only
   split
   ·exact hg.ok1
   exact hg.ok0
  simp only
  split
  ·exact .inr rfl
  exact .inl rfl
 ·rw [e] at hk ⊢
  exact (her_le hg.wk hk.le hP (hlo x ((hx x).2 rfl))).2 (hlh x ((hx x).2 rfl))
 rw [e] at hk he hj ⊢
 have hn:=putE_node he
 have hok:=hk.ok he
 rw [her_iff hok,hn]
 refine ⟨hj hok (by rw [hn]) (.inr ⟨l,hl,by rw [hn]⟩),fun z hz => ?_⟩
 have hz':=(mem_ris l z).1 hz
 exact (her_le hg.wk hk.le hP (hlo z hz')).2 (hlh z hz')

structure Cl (L : List Nd) (kd dual idle rul sg : Int) (l : List Int) : Prop where
 ok : ∀ x ∈ l,okI L x∧(ndI L x).kind ≠ kd∧x ≠ idle∧x ≠ rul
 least : ∀ x ∈ l,∀ y ∈ l,(ndI L x).kind = 2→(ndI L y).kind = 2→(ndI L y).ps = (ndI L x).ps→¬ sg * (ndI L y).k < sg * (ndI L x).k
 clash : ∀ x ∈ l,∀ y ∈ l,(ndI L x).kind = 2→(ndI L y).kind = 2→(ndI L y).ps = negP (ndI L x).ps→¬ sg * ((ndI L x).k + (ndI L y).k)≤sg
 opp : ∀ x ∈ l,∀ y ∈ l,¬ ((ndI L x).kind = 3∧(ndI L y).kind = 4∧(ndI L x).d = (ndI L y).d∧(ndI L x).ps = (ndI L y).ps∧(ndI L x).k = (ndI L y).k)
 need : ∀ x ∈ l,(ndI L x).kind = dual→∀ z ∈ (ndI L x).kids,z ∉ l
theorem Cl.set {L : List Nd} {kd dual idle rul sg : Int} {l k : List Int} (h : Cl L kd dual idle rul sg l) (e : ∀ x,x ∈ k ↔ x ∈ l) : Cl L kd dual idle rul sg k :=
 ⟨fun x hx => h.ok x ((e x).1 hx),fun x hx y hy => h.least x ((e x).1 hx) y ((e y).1 hy),fun x hx y hy => h.clash x ((e x).1 hx) y ((e y).1 hy),fun x hx y hy => h.opp x ((e x).1 hx) y ((e y).1 hy),fun x hx h1 z hz hzk => h.need x ((e x).1 hx) h1 z hz ((e z).1 hzk)⟩
theorem Cl.app {L t : List Nd} {kd dual idle rul sg : Int} {l : List Int} (hl : ∀ x ∈ l,okI L x) : Cl (L ++ t) kd dual idle rul sg l ↔ Cl L kd dual idle rul sg l:=by
 have e : ∀ x ∈ l,ndI (L ++ t) x = ndI L x:=fun x hx => ndI_app (hl x hx)
 constructor
 ·intro h
  refine ⟨fun x hx => ⟨hl x hx,?_⟩,fun x hx y hy => ?_,fun x hx y hy => ?_,fun x hx y hy => ?_,fun x hx => ?_⟩
  ·have:=(h.ok x hx).2; rw [e x hx] at this; exact this
  ·have:=h.least x hx y hy; rw [e x hx,e y hy] at this; exact this
  ·have:=h.clash x hx y hy; rw [e x hx,e y hy] at this; exact this
  ·have:=h.opp x hx y hy; rw [e x hx,e y hy] at this; exact this
  have:=h.need x hx; rw [e x hx] at this; exact this
 intro h
 refine ⟨fun x hx => ⟨okI_app (hl x hx),?_⟩,fun x hx y hy => ?_,fun x hx y hy => ?_,fun x hx y hy => ?_,fun x hx => ?_⟩
 ·rw [e x hx]; exact (h.ok x hx).2
 ·rw [e x hx,e y hy]; exact h.least x hx y hy
 ·rw [e x hx,e y hy]; exact h.clash x hx y hy
 ·rw [e x hx,e y hy]; exact h.opp x hx y hy
 rw [e x hx]; exact h.need x hx
theorem need_cl {L : List Nd} {kd dual idle rul sg : Int} {ids l : List Int} (hn : ¬ (Mem L kd idle ids rul ∨ Clash L sg (Mem L kd idle ids) ∨ Oppos L (Mem L kd idle ids))) (hl : ∀ x,x ∈ l ↔ Need L sg dual (Mem L kd idle ids) x) : Cl L kd dual idle rul sg l:=by
 refine ⟨fun x hx => ?_,fun x hx y hy h1 h2 e => ?_,fun x hx y hy h1 h2 e h3 => ?_,fun x hx y hy h1 => ?_,fun x hx h1 z hz hzl => ?_⟩
 ·have h1:=((hl x).1 hx).1.1
  exact ⟨h1.2.1,h1.2.2.1,h1.2.2.2,fun e => hn (.inl (e ▸ h1))⟩
 ·exact (((hl x).1 hx).1.2 h1).2.2 y ((hl y).1 hy).1.1 h2 e
 ·exact hn (.inr (.inl ⟨x,y,((hl x).1 hx).1.2 h1,((hl y).1 hy).1.2 h2,e,h3⟩))
 ·exact hn (.inr (.inr ⟨x,y,((hl x).1 hx).1.1,((hl y).1 hy).1.1,h1⟩))
 exact ((hl x).1 hx).2 ⟨h1,z,hz,((hl z).1 hzl).1⟩
theorem Cl.mem {L : List Nd} {kd dual idle rul sg : Int} {l : List Int} (h : Cl L kd dual idle rul sg l) (x : Int) : Mem L kd idle l x ↔ x ∈ l:=by
 constructor
 ·rintro ⟨h1,_⟩
  exact h1 (fun y => y ∈ l) (fun _ hy => hy) fun y z hy _ hk _ => absurd hk (h.ok y hy).2.1
 exact fun hx => ⟨rk_id hx,(h.ok x hx).1,(h.ok x hx).2.1,(h.ok x hx).2.2.1⟩
theorem Cl.simp {nn kk : Int} {s : St} {kd dual idle rul sg : Int} {ids l : List Int} (h : Cl s.L kd dual idle rul sg l) (ho : ∀ x ∈ ids,okI s.L x) (hm : ∀ x,Mem s.L kd idle ids x ↔ x ∈ l) : SimpR nn kk s kd dual idle rul sg ids (actJ nn kk s kd l):=by
 have hst : ∀ x,x ∈ l→(ndI s.L x).kind = 2→Stay s.L sg (Mem s.L kd idle ids) x:=fun x hx hk => ⟨(hm x).2 hx,hk,fun y hy h1 e => h.least x hx y ((hm y).1 hy) hk h1 e⟩
 refine .inr ⟨ho,.inr ⟨?_,l,fun x => ⟨fun hx => ⟨⟨(hm x).2 hx,hst x hx⟩,?_⟩,fun hx => (hm x).1 hx.1.1⟩,rfl⟩⟩
 ·rintro (h1 | ⟨x,y,h1,h2,e,h3⟩ | ⟨x,y,h1,h2,e⟩)
  ·exact (h.ok rul ((hm rul).1 h1)).2.2.2 rfl
  ·exact h.clash x ((hm x).1 h1.1) y ((hm y).1 h2.1) h1.2.1 h2.2.1 e h3
  exact h.opp x ((hm x).1 h1) y ((hm y).1 h2) e
 rintro ⟨h1,z,hz,hk⟩
 exact h.need x hx h1 z hz ((hm z).1 hk.1)
theorem cl_found {nn kk : Int} {s : St} {kd : Int} {x : Int} (hg : Gv kk s.L) (ho : okI s.L x) (hkd : kd = 5 ∨ kd = 6) (hk : (ndI s.L x).kind = kd) : actJ nn kk s kd (ndI s.L x).kids = (s,x,0):=by
 have hw:=hg.wk
 rcases hg.cases ho with ⟨_,e⟩ | ⟨_,e⟩ | ⟨_,f,_,h3,_,e,_⟩ | ⟨_,kd',kids,h3,e,h5,h6,h7⟩ | ⟨_,kd',v,y,h3,e,_⟩
 ·rw [e] at hk; simp [cst] at hk; omega
 ·rw [e] at hk; simp [cst] at hk; omega
 ·rw [e] at hk; dsimp only at hk; omega
 ·have hkk : kd' = kd:=by rw [e] at hk; exact hk
  subst hkk
  rcases actJ_cases (nn:=nn) (kk:=kk) (s:=s) (l:=(ndI s.L x).kids) hkd (fun z hz => hw.ok ho hz) with ⟨h1,_⟩ | ⟨y,h1,_⟩ | ⟨h1,h2⟩
  ·rw [e] at h1; dsimp only at h1; rw [h1] at h5; simp at h5
  ·rw [e] at h1
   dsimp only at h1
   exfalso
   rcases kids with _ | ⟨a,_ | ⟨b,t⟩⟩
   ·simp at h5
   ·simp at h5
   have ha:=(h1 a).1 (by simp)
   have hb:=(h1 b).1 (by simp)
   have:=(List.pairwise_cons.1 h6).1 b (by simp)
   omega
  rw [h2]
  have hs:=ndI_some ho
  rw [e] at hs ⊢
  dsimp only
  rw [ris_id h6,putE_found hg.uq hs]
  have:=ho.1
  rw [Int.toNat_of_nonneg this]
 rw [e] at hk; dsimp only at hk; omega
def Law5 (kd dual idle rul sg : Int) : Prop:=(kd = 5∧dual = 6∧idle = 1∧rul = 0∧sg = 1) ∨ (kd = 6∧dual = 5∧idle = 0∧rul = 1∧sg = -1)
def SmpP (L : List Nd) (y : Int) : Prop:=((ndI L y).kind = 5→Cl L 5 6 1 0 1 (ndI L y).kids)∧((ndI L y).kind = 6→Cl L 6 5 0 1 (-1) (ndI L y).kids)
def Smp (L : List Nd) (i : Int) : Prop:=Her L (SmpP L) i
theorem smpP_app {L L' : List Nd} (hw : Wk L) (hl : ∃ t,L' = L ++ t) (y : Int) (ho : okI L y) : SmpP L' y ↔ SmpP L y:=by
 obtain ⟨t,rfl⟩:=hl
 unfold SmpP
 rw [ndI_app ho,Cl.app fun x hx => hw.ok ho hx,Cl.app fun x hx => hw.ok ho hx]
theorem smp_le {L L' : List Nd} (hw : Wk L) (hl : ∃ t,L' = L ++ t) {i : Int} (ho : okI L i) : Smp L' i ↔ Smp L i:=her_le hw hl (smpP_app hw hl) ho
theorem SimpR.smp {nn kk : Int} {s : St} {kd dual idle rul sg : Int} {ids : List Int} {r : St × Int × Int} (h : SimpR nn kk s kd dual idle rul sg ids r) (hlw : Law5 kd dual idle rul sg) (hg : Gv kk s.L) (he : r.2.2 = 0) (hi : ∀ x ∈ ids,Smp s.L x) : Smp r.1.L r.2.1:=by
 have hkd : kd = 5 ∨ kd = 6:=by unfold Law5 at hlw; omega
 have hrl : rul = 0 ∨ rul = 1:=by unfold Law5 at hlw; omega
 have hk:=h.kp hkd hrl hg
 have h':=h
 rcases h' with ⟨_,rfl⟩ | ⟨ho,⟨_,rfl⟩ | ⟨h1,l,hml,rfl⟩⟩
 ·cases he
 ·refine h.her hkd hrl hg he (P:=SmpP s.L) (smpP_app hg.wk hk.le) ?_ ?_ ?_ hi
  ·unfold SmpP; rw [hg.n0]; exact ⟨fun e => by simp [cst] at e,fun e => by simp [cst] at e⟩
  ·unfold SmpP; rw [hg.n1]; exact ⟨fun e => by simp [cst] at e,fun e => by simp [cst] at e⟩
  intro _ hkk _
  exfalso
  simp only at hkk
  rcases hrl with rfl | rfl
  ·rw [hg.n0] at hkk; simp [cst] at hkk; omega
  rw [hg.n1] at hkk; simp [cst] at hkk; omega
 have hcl0:=need_cl h1 hml
 have hlo : ∀ x ∈ l,okI s.L x:=fun x hx => (hcl0.ok x hx).1
 refine h.her hkd hrl hg he (P:=SmpP s.L) (smpP_app hg.wk hk.le) ?_ ?_ ?_ hi
 ·unfold SmpP; rw [hg.n0]; exact ⟨fun e => by simp [cst] at e,fun e => by simp [cst] at e⟩
 ·unfold SmpP; rw [hg.n1]; exact ⟨fun e => by simp [cst] at e,fun e => by simp [cst] at e⟩
 intro hok hkk hor
 rcases actJ_cases (nn:=nn) (kk:=kk) hkd hlo with ⟨_,e⟩ | ⟨x,hx,e⟩ | ⟨h2,e⟩
 ·exfalso
  rw [e] at hkk
  simp only at hkk
  rcases hkd with rfl | rfl
  ·rw [if_pos rfl,hg.n1] at hkk; simp [cst] at hkk
  rw [if_neg (by decide),hg.n0] at hkk; simp [cst] at hkk
 ·exfalso
  rw [e] at hkk
  exact (hcl0.ok x ((hx x).2 rfl)).2.1 hkk
 rw [e] at hk he ⊢
 have hn:=putE_node he
 have hclr : Cl (putE nn kk s ⟨kd,0,[],0,0,ris l⟩).1.L kd dual idle rul sg (ris l):=by
  obtain ⟨t,e4⟩:=hk.le
  rw [e4]
  exact ((Cl.app hlo).2 hcl0).set (mem_ris l)
 unfold SmpP
 rw [hn]
 dsimp only
 unfold Law5 at hlw
 rcases hlw with ⟨rfl,rfl,rfl,rfl,rfl⟩ | ⟨rfl,rfl,rfl,rfl,rfl⟩
 ·exact ⟨fun _ => hclr,fun e => by omega⟩
 exact ⟨fun e => by omega,fun _ => hclr⟩
end Nt
namespace Nt

def Prs (J : Int→Int→Prop) : List Int→List Int→Prop
 | [],[] => True
 | a :: la,b :: lb => J a b∧Prs J la lb
 | [],_ :: _ => False
 | _ :: _,[] => False
theorem prs_snoc {J : Int→Int→Prop} {a b : Int} (h : J a b) : ∀ {la lb : List Int},Prs J la lb→Prs J (la ++ [a]) (lb ++ [b])
 | [],[],_ => ⟨h,trivial⟩
 | _ :: _,_ :: _,k => ⟨k.1,prs_snoc h k.2⟩
 | [],_ :: _,k => False.elim k
 | _ :: _,[],k => False.elim k
theorem prs_mono {J K : Int→Int→Prop} : ∀ {la lb : List Int},(∀ a ∈ la,∀ b ∈ lb,J a b→K a b)→Prs J la lb→Prs K la lb
 | [],[],_,_ => trivial
 | a :: _la,b :: _lb,h,k => ⟨h a List.mem_cons_self b List.mem_cons_self k.1,prs_mono (fun a ha b hb => h a (List.mem_cons_of_mem _ ha) b (List.mem_cons_of_mem _ hb)) k.2⟩
 | [],_ :: _,_,k => False.elim k
 | _ :: _,[],_,k => False.elim k
theorem prs_len {J : Int→Int→Prop} : ∀ {la lb : List Int},Prs J la lb→la.length = lb.length
 | [],[],_ => rfl
 | _ :: _,_ :: _,k => congrArg Nat.succ (prs_len k.2)
 | [],_ :: _,k => False.elim k
 | _ :: _,[],k => False.elim k
theorem prs_left {J : Int→Int→Prop} : ∀ {la lb : List Int},Prs J la lb→∀ a ∈ la,∃ b ∈ lb,J a b
 | [],[],_,_a,ha => absurd ha List.not_mem_nil
 | _x :: _la,y :: _lb,k,a,ha => (List.mem_cons.1 ha).elim (fun e => ⟨y,List.mem_cons_self,e ▸ k.1⟩) fun h => (prs_left k.2 a h).elim fun b hb => ⟨b,List.mem_cons_of_mem _ hb.1,hb.2⟩
 | [],_ :: _,k,_,_ => False.elim k
 | _ :: _,[],k,_,_ => False.elim k
theorem prs_right {J : Int→Int→Prop} : ∀ {la lb : List Int},Prs J la lb→∀ b ∈ lb,∃ a ∈ la,J a b
 | [],[],_,_a,ha => absurd ha List.not_mem_nil
 | x :: _la,_y :: _lb,k,b,hb => (List.mem_cons.1 hb).elim (fun e => ⟨x,List.mem_cons_self,e ▸ k.1⟩) fun h => (prs_right k.2 b h).elim fun a ha => ⟨a,List.mem_cons_of_mem _ ha.1,ha.2⟩
 | [],_ :: _,k,_,_ => False.elim k
 | _ :: _,[],k,_,_ => False.elim k
theorem prs_id : ∀ {la lb : List Int},Prs (fun a b => b = a) la lb→lb = la
 | [],[],_ => rfl
 | _ :: _,_ :: _,k => by rw [k.1,prs_id k.2]
 | [],_ :: _,k => False.elim k
 | _ :: _,[],k => False.elim k

def ndA (a : Atm) : Nd:=⟨a.kind,a.d,a.ps,a.k,0,[]⟩
def NegR (nn kk : Int) (s : St) (i : Int) (ks : List Int) (r : St × Int × Int) : Prop :=
 ((ndI s.L i).kind = 5∧SimpR nn kk s 6 5 0 1 (-1) ks r) ∨ ((ndI s.L i).kind = 6∧SimpR nn kk s 5 6 1 0 1 ks r) ∨
 ((ndI s.L i).kind = 7∧r = actB nn kk s 8 (ndI s.L i).var (ks.headD 0)) ∨ ((ndI s.L i).kind = 8∧r = actB nn kk s 7 (ndI s.L i).var (ks.headD 0)) ∨
 ((ndI s.L i).kind < 5∧r = putE nn kk s (ndA (negA (atmN (ndI s.L i)))))
def AgR (nn kk : Int) (s : St) (i : Int) (ks : List Int) (r : St × Int × Int) : Prop :=
 ((ndI s.L i).kind = 5∧SimpR nn kk s 5 6 1 0 1 ks r) ∨ ((ndI s.L i).kind = 6∧SimpR nn kk s 6 5 0 1 (-1) ks r) ∨
 (((ndI s.L i).kind = 7 ∨ (ndI s.L i).kind = 8)∧r = actB nn kk s (ndI s.L i).kind (ndI s.L i).var (ks.headD 0)) ∨
 ((ndI s.L i).kind < 5∧r = (s,i,0))
theorem Gv.atm {kk : Int} {L : List Nd} (h : Gv kk L) {i : Int} (hi : okI L i) (hk : (ndI L i).kind < 5) : Fit (atmN (ndI L i))∧(ndI L i).ps.length≤209716∧(ndI L i).kids = []∧ndI L i = ndA (atmN (ndI L i)):=by
 rcases h.cases hi with ⟨_,e⟩ | ⟨_,e⟩ | ⟨_,f,h1,_,_,e,h5,_⟩ | ⟨_,kd,kids,h3,e,_⟩ | ⟨_,kd,v,x,h3,e,_⟩
 ·rw [e]; exact ⟨.inl ⟨.inl rfl,rfl,rfl,rfl⟩,by simp [cst],rfl,rfl⟩
 ·rw [e]; exact ⟨.inl ⟨.inr rfl,rfl,rfl,rfl⟩,by simp [cst],rfl,rfl⟩
 ·rw [e]; exact ⟨h1,h5,rfl,rfl⟩
 ·rw [e] at hk; dsimp only at hk; omega
 rw [e] at hk; dsimp only at hk; omega
theorem Gv.quant {kk : Int} {L : List Nd} (h : Gv kk L) {i : Int} (hi : okI L i) (hk : (ndI L i).kind = 7 ∨ (ndI L i).kind = 8) : ∃ x,(ndI L i).kids = [x]∧I64 (ndI L i).var∧ndI L i = ⟨(ndI L i).kind,0,[],0,(ndI L i).var,[x]⟩∧okI L x:=by
 have hw:=h.wk
 rcases h.cases hi with ⟨_,e⟩ | ⟨_,e⟩ | ⟨_,f,_,h2,_,e,_⟩ | ⟨_,kd,kids,h3,e,_⟩ | ⟨_,kd,v,x,h3,e,h5,h6⟩
 ·rw [e] at hk; simp [cst] at hk
 ·rw [e] at hk; simp [cst] at hk
 ·rw [e] at hk; dsimp only at hk; omega
 ·rw [e] at hk; dsimp only at hk; omega
 refine ⟨x,by rw [e],by rw [e]; exact h5,by rw [e],hw.ok hi (by rw [e]; simp)⟩
theorem Gv.kinds {kk : Int} {L : List Nd} (h : Gv kk L) {i : Int} (hi : okI L i) : 0≤(ndI L i).kind∧(ndI L i).kind≤8:=by
 rcases h.cases hi with ⟨_,e⟩ | ⟨_,e⟩ | ⟨_,f,_,h2,_,e,_⟩ | ⟨_,kd,kids,h3,e,_⟩ | ⟨_,kd,v,x,h3,e,h5,h6⟩
 ·rw [e]; simp [cst]
 ·rw [e]; simp [cst]
 ·rw [e]; dsimp only; omega
 ·rw [e]; dsimp only; omega
 rw [e]; dsimp only; omega
theorem negA_len {a : Atm} (h : a.ps.length≤209716) : (negA a).ps.length≤209716:=by
 unfold negA
 split
 ·exact h
 split
 ·exact h
 split
 ·simpa [scl] using h
 split
 ·exact h
 split <;> exact h
theorem NegR.kp {nn kk : Int} {s : St} {i : Int} {ks : List Int} {r : St × Int × Int} (h : NegR nn kk s i ks r) (hg : Gv kk s.L) (hi : okI s.L i) : Kp kk s r:=by
 rcases h with ⟨_,h⟩ | ⟨_,h⟩ | ⟨hk,rfl⟩ | ⟨hk,rfl⟩ | ⟨hk,rfl⟩
 ·exact h.kp (.inr rfl) (.inr rfl) hg
 ·exact h.kp (.inl rfl) (.inl rfl) hg
 ·obtain ⟨x,_,h1,_⟩:=hg.quant hi (.inl hk)
  exact kp_bind hg (.inr rfl) h1
 ·obtain ⟨x,_,h1,_⟩:=hg.quant hi (.inr hk)
  exact kp_bind hg (.inl rfl) h1
 obtain ⟨h1,h2,_⟩:=hg.atm hi hk
 exact kp_put hg (.inl ⟨_,h1.neg,rfl,negA_len h2⟩)
theorem AgR.kp {nn kk : Int} {s : St} {i : Int} {ks : List Int} {r : St × Int × Int} (h : AgR nn kk s i ks r) (hg : Gv kk s.L) (hi : okI s.L i) : Kp kk s r:=by
 rcases h with ⟨_,h⟩ | ⟨_,h⟩ | ⟨hk,rfl⟩ | ⟨hk,rfl⟩
 ·exact h.kp (.inl rfl) (.inl rfl) hg
 ·exact h.kp (.inr rfl) (.inr rfl) hg
 ·obtain ⟨x,_,h1,_⟩:=hg.quant hi hk
  exact kp_bind hg hk h1
 exact kp_now hg fun _ => hi
def PlnP (L : List Nd) (y : Int) : Prop:=(ndI L y).kind ≠ 7∧(ndI L y).kind ≠ 8
def Pln (L : List Nd) (i : Int) : Prop:=Her L (PlnP L) i
theorem plnP_app {L L' : List Nd} (hl : ∃ t,L' = L ++ t) (y : Int) (ho : okI L y) : PlnP L' y ↔ PlnP L y:=by
 obtain ⟨t,rfl⟩:=hl
 unfold PlnP
 rw [ndI_app ho]
theorem pln_le {L L' : List Nd} (hw : Wk L) (hl : ∃ t,L' = L ++ t) {i : Int} (ho : okI L i) : Pln L' i ↔ Pln L i:=her_le hw hl (plnP_app hl) ho
def OppJ (L : List Nd) (i j : Int) : Prop:=Pln L i→∀ f,tv L f j ↔ ¬ tv L f i
def SamJ (L : List Nd) (i j : Int) : Prop:=(Pln L i→∀ f,tv L f j ↔ tv L f i)∧Smp L j∧(Smp L i→j = i)
theorem oppJ_le {L L' : List Nd} (hw : Wk L) (hw2 : Wk L') (hl : ∃ t,L' = L ++ t) {i j : Int} (hi : okI L i) (hj : okI L j) (h : OppJ L i j) : OppJ L' i j:=fun hp f => by
 rw [tv_le hw hw2 hl hi,tv_le hw hw2 hl hj]
 exact h ((pln_le hw hl hi).1 hp) f
theorem samJ_le {L L' : List Nd} (hw : Wk L) (hw2 : Wk L') (hl : ∃ t,L' = L ++ t) {i j : Int} (hi : okI L i) (hj : okI L j) (h : SamJ L i j) : SamJ L' i j:=by
 refine ⟨fun hp f => ?_,(smp_le hw hl hj).2 h.2.1,fun hs => h.2.2 ((smp_le hw hl hi).1 hs)⟩
 rw [tv_le hw hw2 hl hi,tv_le hw hw2 hl hj]
 exact h.1 ((pln_le hw hl hi).1 hp) f
theorem NegR.opp {nn kk : Int} {s : St} {i : Int} {ks : List Int} {r : St × Int × Int} (h : NegR nn kk s i ks r) (hg : Gv kk s.L) (hi : okI s.L i) (hks : Prs (OppJ s.L) (ndI s.L i).kids ks) (he : r.2.2 = 0) : OppJ r.1.L i r.2.1:=by
 have hk:=h.kp hg hi
 intro hp f
 have hp:=(pln_le hg.wk hk.le hi).1 hp
 rw [tv_le hg.wk hk.gv.wk hk.le hi]
 have hpi:=(her_iff hi).1 hp
 rcases h with ⟨hkd,h⟩ | ⟨hkd,h⟩ | ⟨hkd,rfl⟩ | ⟨hkd,rfl⟩ | ⟨hkd,rfl⟩
 ·rw [or_tv h hg he,tv_and hg.wk hi hkd]
  constructor
  ·rintro ⟨x,hx,h1⟩ h2
   obtain ⟨a,ha,h3⟩:=prs_right hks x hx
   exact (h3 (hpi.2 a ha) f).1 h1 (h2 a ha)
  intro h1
  refine Classical.byContradiction fun h2 => h1 fun a ha => ?_
  obtain ⟨b,hb,h3⟩:=prs_left hks a ha
  exact Classical.byContradiction fun h4 => h2 ⟨b,hb,(h3 (hpi.2 a ha) f).2 h4⟩
 ·rw [and_tv h hg he,tv_or hg.wk hi hkd]
  constructor
  ·rintro h1 ⟨a,ha,h2⟩
   obtain ⟨b,hb,h3⟩:=prs_left hks a ha
   exact (h3 (hpi.2 a ha) f).1 (h1 b hb) h2
  intro h1 x hx
  obtain ⟨a,ha,h3⟩:=prs_right hks x hx
  exact (h3 (hpi.2 a ha) f).2 fun h4 => h1 ⟨a,ha,h4⟩
 ·exact absurd hkd hpi.1.1
 ·exact absurd hkd hpi.1.2
 obtain ⟨h1,_⟩:=hg.atm hi hkd
 have hn:=putE_node he
 have hlt : (negA (atmN (ndI s.L i))).kind < 5:=by
  have : (atmN (ndI s.L i)).kind < 5:=hkd
  unfold negA
  split
  ·simp
  split
  ·simp
  split
  ·simp
  split
  ·simp
  split
  ·simp
  exact this
 rw [tv_atm (by rw [hn]; unfold ndA; dsimp only; omega) (by rw [hn]; unfold ndA; dsimp only; omega),hn,tv_atm o_m o_m]
 exact negA_sat h1 f
theorem AgR.same {nn kk : Int} {s : St} {i : Int} {ks : List Int} {r : St × Int × Int} (h : AgR nn kk s i ks r) (hg : Gv kk s.L) (hi : okI s.L i) (hks : Prs (SamJ s.L) (ndI s.L i).kids ks) (he : r.2.2 = 0) : SamJ r.1.L i r.2.1:=by
 have hk:=h.kp hg hi
 have hid : Smp s.L i→ks = (ndI s.L i).kids:=fun hs => prs_id (prs_mono (fun a ha b _ hab => hab.2.2 (((her_iff hi).1 hs).2 a ha)) hks)
 have hsm : ∀ x ∈ ks,Smp s.L x:=fun x hx => by
  obtain ⟨a,_,h3⟩:=prs_right hks x hx
  exact h3.2.1
 have hsmp : ∀ kd dual idle rul sg,Law5 kd dual idle rul sg→SimpR nn kk s kd dual idle rul sg ks r→(ndI s.L i).kind = kd→Smp r.1.L i→r.2.1 = i:=by
  intro kd dual idle rul sg hlw hR hkd hs
  have hs:=(smp_le hg.wk hk.le hi).1 hs
  have hkd5 : kd = 5 ∨ kd = 6:=by unfold Law5 at hlw; omega
  have hcl : Cl s.L kd dual idle rul sg (ndI s.L i).kids:=by
   have h0:=((her_iff hi).1 hs).1
   unfold SmpP at h0
   unfold Law5 at hlw
   rcases hlw with ⟨rfl,rfl,rfl,rfl,rfl⟩ | ⟨rfl,rfl,rfl,rfl,rfl⟩
   ·exact h0.1 hkd
   exact h0.2 hkd
  rw [hid hs] at hR
  have hS:=Cl.simp (nn:=nn) (kk:=kk) (s:=s) hcl (fun x hx => hg.wk.ok hi hx) hcl.mem
  rw [cl_found hg hi hkd5 hkd] at hS
  rw [hR.uniq hS]
 rcases h with ⟨hkd,h⟩ | ⟨hkd,h⟩ | ⟨hkd,rfl⟩ | ⟨hkd,rfl⟩
 ·refine ⟨fun hp f => ?_,h.smp (.inl ⟨rfl,rfl,rfl,rfl,rfl⟩) hg he hsm,fun hs => hsmp 5 6 1 0 1 (.inl ⟨rfl,rfl,rfl,rfl,rfl⟩) h hkd hs⟩
  have hp:=(pln_le hg.wk hk.le hi).1 hp
  have hpi:=(her_iff hi).1 hp
  rw [tv_le hg.wk hk.gv.wk hk.le hi,and_tv h hg he,tv_and hg.wk hi hkd]
  constructor
  ·intro h1 a ha
   obtain ⟨b,hb,h3⟩:=prs_left hks a ha
   exact (h3.1 (hpi.2 a ha) f).1 (h1 b hb)
  intro h1 x hx
  obtain ⟨a,ha,h3⟩:=prs_right hks x hx
  exact (h3.1 (hpi.2 a ha) f).2 (h1 a ha)
 ·refine ⟨fun hp f => ?_,h.smp (.inr ⟨rfl,rfl,rfl,rfl,rfl⟩) hg he hsm,fun hs => hsmp 6 5 0 1 (-1) (.inr ⟨rfl,rfl,rfl,rfl,rfl⟩) h hkd hs⟩
  have hp:=(pln_le hg.wk hk.le hi).1 hp
  have hpi:=(her_iff hi).1 hp
  rw [tv_le hg.wk hk.gv.wk hk.le hi,or_tv h hg he,tv_or hg.wk hi hkd]
  constructor
  ·rintro ⟨x,hx,h1⟩
   obtain ⟨a,ha,h3⟩:=prs_right hks x hx
   exact ⟨a,ha,(h3.1 (hpi.2 a ha) f).1 h1⟩
  rintro ⟨a,ha,h1⟩
  obtain ⟨b,hb,h3⟩:=prs_left hks a ha
  exact ⟨b,hb,(h3.1 (hpi.2 a ha) f).2 h1⟩
 ·obtain ⟨x,h1,h2,h3,h4⟩:=hg.quant hi hkd
  rw [h1] at hks
  have hlen:=prs_len hks
  rcases ks with _ | ⟨y,_ | ⟨z,t⟩⟩
  ·simp at hlen
  ·have hj:=hks.1
   have e : actB nn kk s (ndI s.L i).kind (ndI s.L i).var y = putE nn kk s ⟨(ndI s.L i).kind,0,[],0,(ndI s.L i).var,[y]⟩ ∨ (actB nn kk s (ndI s.L i).kind (ndI s.L i).var y).2.2 = 80:=by
    unfold actB
    rw [if_neg o_m]
    split
    ·exact .inr rfl
    exact .inl rfl
   have hy : okI s.L y ∨ (actB nn kk s (ndI s.L i).kind (ndI s.L i).var y).2.2 = 80:=by
    unfold actB okI
    rw [if_neg o_m]
    split
    ·exact .inr rfl
    exact .inl o_m
   simp only [List.headD_cons] at hk he ⊢
   rcases e with e | e
   ·rcases hy with hy | hy
    ·rw [e] at hk he ⊢
     have hn:=putE_node he
     refine ⟨fun hp f => ?_,?_,fun hs => ?_⟩
     ·have hp:=(pln_le hg.wk hk.le hi).1 hp
      have hpi:=((her_iff hi).1 hp).1
      exact absurd hkd (by unfold PlnP at hpi; omega)
     ·unfold Smp
      rw [her_iff (hk.ok he)]
      refine ⟨?_,?_⟩
      ·unfold SmpP
       rw [hn]
       dsimp only
       exact ⟨fun e => by omega,fun e => by omega⟩
      rw [hn]
      intro z hz
      have ez : z = y:=by simpa using hz
      subst ez
      exact (smp_le hg.wk hk.le hy).2 hj.2.1
     have hs:=(smp_le hg.wk hk.le hi).1 hs
     have hyx : y = x:=hj.2.2 (((her_iff hi).1 hs).2 x (by rw [h1]; simp))
     subst hyx
     rw [← h3,putE_found hg.uq (ndI_some hi)]
     exact Int.toNat_of_nonneg hi.1
    rw [hy] at he; cases he
   rw [e] at he; cases he
  simp at hlen
 refine ⟨fun _ _ => Iff.rfl,?_,fun _ => rfl⟩
 have h4:=(hg.atm hi hkd).2.2.1
 unfold Smp
 simp only
 rw [her_iff hi,h4]
 exact ⟨⟨fun e => by omega,fun e => by omega⟩,fun z hz => by cases hz⟩
end Nt
end Go.Proofs.YtghboandiekiiaaGreatDoor

namespace Go.Proofs.YtghboandiekiiaaGreatDoor
open Go.RowKit Go.Sort Go.Shelf
open Tm At
namespace Nt

def SlB (w : World) (b : Nat) (v : Value) : Prop:=w.heap[b]? = some (.cells #[v] 23 (0,0))
theorem SlB.lt {w : World} {b : Nat} {v : Value} (h : SlB w b v) : b < w.heap.size:=lt_of_block h
theorem SlB.c0 {w : World} {b : Nat} {v : Value} (h : SlB w b v) : w.cell? ⟨b,0,none⟩ = some v:=cell_of_row w b 0 _ _ (0,0) h
theorem SlB.below {w w' : World} {b : Nat} {v : Value} (h : SlB w b v) (k : Below w.heap.size w w') : SlB w' b v:=(k.block b h.lt).trans h

theorem isThere_n {w : World} {ba : Nat} {a : Option Addr} {c : Nat} {l : List Int} {id : Int} (hb : SlB w ba (.slice a l.length c)) (hI : IL w a l.length l) (hs : l.Pairwise (·≤·)) (hm : l.length≤4194304) :
  Calls Tryz.prog 111 #[.int .i64 id,.pointer (some ⟨ba,0,none⟩)] w fun e w' => e = .returned (.bool (decide (id ∈ l)))∧Below w.heap.size w w':=by
 have u0:=hb.c0
 have hbs : Hid (∃ ix : Int,Calls Tryz.prog 112 #[.slice a l.length c,.int .i64 id] w fun e w' => e = .returned (.tuple #[.int .i64 ix,.bool (decide (id ∈ l))])∧Below w.heap.size w w'):=hide (by
  rcases hI.2 with h0 | ⟨b,off,rfl,hbl,hc⟩
  ·have hl : l = []:=List.eq_nil_of_length_eq_zero h0
   subst hl
   refine ⟨0,(Tryz.slices_BinarySearch_int_empty a c id w).mono ?_⟩
   rintro e w' ⟨rfl,rfl⟩
   exact ⟨rfl,Below.refl _ _⟩
  refine ⟨((l.countP (· < id) : Nat) : Int),(Tryz.slices_BinarySearch_int b off l.length c l id w (Nat.le_refl _) o_m (fun j hj => ?_) (by rw [List.take_length]; exact hs)).mono ?_⟩
  ·rw [(hc j hj).1,List.getD_eq_getElem?_getD,List.getElem?_eq_getElem hj]
   rfl
  rintro e w' ⟨rfl,q,rfl⟩
  rw [List.take_length,show l.contains id = decide (id ∈ l) by simp]
  exact ⟨rfl,below_drewN _ _ _⟩)
 obtain ⟨ix,hcl⟩:=hbs.out
 replace hcl:=hide hcl
 clear hbs hI hb hs
 go_enter Tryz.func111,Tryz.ntmps111
 go_wp2_with fail
 refine hcl.out.mono ?_
 rintro e w1 ⟨rfl,k1⟩
 replace k1:=hide k1
 clear hcl u0
 go_wp2
 go_ret
 exact ⟨rfl,k1.out⟩

theorem indexF_n {w : World} {ka : Option Addr} {kc K : Nat} {cb : Array Value} {l : List Int} {q : Int→Bool} (hI : IL w ka l.length l) (hm : l.length≤4194304) (eg : ∀ args w,(callFunc K args).run Tryz.prog w = .ok (.enter K args) w)
  (hq : ∀ w' z,z ∈ l→Below w.heap.size w w'→Calls Tryz.prog K (#[.int .i64 z] ++ cb) w' fun e w'' => e = .returned (.bool (q z))∧Below w'.heap.size w' w'') :
  Calls Tryz.prog 68 #[.slice ka l.length kc,.func (.func K) #[] cb] w fun x w' => ∃ i : Int,x = .returned (.int .i64 i)∧(decide (0≤i) = l.any q)∧-1≤i∧i < l.length∧Below w.heap.size w w':=by
 go_enter Tryz.func68,Tryz.ntmps68
 go_wp2_with fail
 go_loopw [8] (fun i wr => ∃ t : Nat,t≤l.length∧i = .int .i64 t∧Hid ((l.take t).any q = false)∧Hid (Below w.heap.size w wr)) (fun i _ => l.length - (intOf i).toNat)
 case atStart => exact ⟨0,Nat.zero_le _,rfl,(show _ = _ by simp),hide (Below.refl _ _)⟩
 case round =>
  obtain ⟨t,ht,rfl,hno,kr⟩:=hrel
  by_cases htm : t < l.length
  ·rcases (hI.below kr.out).2 with h0 | ⟨bp,op,rfl,hbp,hLL⟩
   ·omega
   obtain ⟨e0,hx⟩:=hLL t htm
   have hstep : Hid ((l.take (t + 1)).any q = q l[t]):=(show _ = _ by rw [List.take_succ_eq_append_getElem (l:=l) (i:=t) o_m,List.any_append,hno.out]; simp)
   have hex : Hid (q l[t] = true→l.any q = true):=(fun hh => List.any_eq_true.2 ⟨l[t],List.getElem_mem _,hh⟩)
   have hcl:=hide (hq wr l[t] (List.getElem_mem _) kr.out)
   generalize l[t] = lt at *
   clear hI hLL hq
   go_wp2_with fail
   refine hcl.out.mono ?_
   rintro x w2 ⟨rfl,k2⟩
   replace k2:=hide (grow_step k2 kr.out)
   clear hcl
   cases hil : q lt with
   | true =>
    have hany:=hide (hex.out hil)
    clear hil
    go_wp2
    go_ret
    exact ⟨t,rfl,by rw [hany.out]; simp,by omega,by omega,k2.out⟩
   | false =>
    have hst:=hide (hstep.out.trans hil)
    clear hil
    go_wp2
    go_round
    case rel => exact ⟨t + 1,by omega,by go_num,hst,k2⟩
    case measure => simp [intOf]; omega
  obtain rfl : t = l.length:=by omega
  have hall : Hid (l.any q = false):=by
   have h1:=hno.out
   rw [List.take_of_length_le (Nat.le_refl _)] at h1
   exact h1
  clear hno
  go_wp2
  go_ret
  exact ⟨-1,rfl,by rw [hall.out]; rfl,by omega,by omega,kr.out⟩
theorem containsF_n {w : World} {ka : Option Addr} {kc K : Nat} {cb : Array Value} {l : List Int} {q : Int→Bool} (hI : IL w ka l.length l) (hm : l.length≤4194304) (eg : ∀ args w,(callFunc K args).run Tryz.prog w = .ok (.enter K args) w)
  (hq : ∀ w' z,z ∈ l→Below w.heap.size w w'→Calls Tryz.prog K (#[.int .i64 z] ++ cb) w' fun e w'' => e = .returned (.bool (q z))∧Below w'.heap.size w' w'') :
  Calls Tryz.prog 38 #[.slice ka l.length kc,.func (.func K) #[] cb] w fun x w' => x = .returned (.bool (l.any q))∧Below w.heap.size w w':=by
 have hix:=hide (indexF_n (kc:=kc) hI hm eg hq)
 clear hI hq
 go_enter Tryz.func38,Tryz.ntmps38
 go_wp2_with fail
 refine hix.out.mono ?_
 rintro x w1 ⟨i,rfl,h1,h2,h3,k1⟩
 replace k1:=hide k1
 replace h1:=hide h1
 clear hix
 go_wp2
 go_ret
 exact ⟨by rw [← h1.out]; rfl,k1.out⟩
end Nt
end Go.Proofs.YtghboandiekiiaaGreatDoor
