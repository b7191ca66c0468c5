/-
 Several texts in one: HC,HD,HE.
-/
import Derived.Test.YtcfmkjegolpgaaaGreatDoorP44
import Derived.Test.YtcfmkjegolpgaaaGreatDoorP43
import Derived.Laws.AppendOwnNone
import Derived.Test.YtcfmkjegolpgaaaGreatDoorP35
namespace Go.Proofs.YtcfmkjegolpgaaaGreatDoor
open Go.RowKit Go.Sort Go.Shelf
open Tm At
namespace Nt

structure Sw (s : St) : Prop where
 c : C01 s
 st : ∀ n ∈ s.L,Std n.ps
theorem sw_0 : Sw st0:=⟨⟨rfl,rfl⟩,fun n hn => by
 simp only [st0,List.mem_cons,List.not_mem_nil,or_false] at hn
 rcases hn with rfl | rfl <;> exact std_nil⟩
theorem sw_put {nn kk : Int} {s : St} {n : Nd} (h : Sw s) (hn : Std n.ps) : Sw (putE nn kk s n).1:=by
 unfold putE
 split
 ·exact h
 split
 ·obtain ⟨⟨h0,h1⟩,h2⟩:=h
  obtain ⟨g0, -⟩:=List.getElem?_eq_some_iff.1 h0
  obtain ⟨g1, -⟩:=List.getElem?_eq_some_iff.1 h1
  refine ⟨⟨?_,?_⟩,fun m hm => ?_⟩
  ·dsimp only; rw [List.getElem?_append_left g0]; exact h0
  ·dsimp only; rw [List.getElem?_append_left g1]; exact h1
  rcases List.mem_append.1 hm with hm | hm
  ·exact h2 m hm
  rw [List.mem_singleton.1 hm]; exact hn
 exact ⟨h.c,h.st⟩
theorem sw_A {nn kk : Int} {s : St} (h : Sw s) (kd d : Int) (ps : List (Int × Int)) (k : Int) : Sw (actA nn kk s kd d ps k).1:=by
 unfold actA
 cases hf : formA kd d (nz (lays [] ps)) k with
 | inr e => exact h
 | inl f => exact sw_put h (formA_fit (std_lays ps) hf).std
theorem sw_J {nn kk : Int} {s : St} (h : Sw s) (kd : Int) (l : List Int) : Sw (actJ nn kk s kd l).1:=by
 unfold actJ
 split
 ·exact h
 split
 ·exact h
 split
 ·exact h
 ·exact h
 exact sw_put h std_nil
theorem sw_B {nn kk : Int} {s : St} (h : Sw s) (kd v kid : Int) : Sw (actB nn kk s kd v kid).1:=by
 unfold actB
 split
 ·exact h
 split
 ·exact h
 exact sw_put h std_nil
theorem sw_R {s : St} (h : Sw s) (n : Int) : Sw (actR s n).1:=by
 unfold actR
 split
 ·exact h
 rename_i hn
 refine ⟨⟨?_,?_⟩,fun m hm => h.st m (List.mem_of_mem_take hm)⟩
 ·dsimp only; rw [List.getElem?_take,if_pos o_m]; exact h.c.1
 dsimp only; rw [List.getElem?_take,if_pos o_m]; exact h.c.2
theorem RG.butF {G : Nat→Prop} {w w' : World} {ra rm : Nat} {nn kk : Int} {s : St} {R : Nat→Prop} (h : RG w ra rm nn kk s R) (hb : ButF G w w') (hR : ∀ b,R b→¬ G b) (hm : ¬ G rm) : RG w' ra rm nn kk s R:=by
 obtain ⟨C,nv,X,h1,h2,h3⟩:=h.ar
 exact ⟨⟨C,nv,X,h1.butF hb fun b hf => hR b (h3 b hf),h2,h3⟩,(hb.block rm h.mb.lt hm).trans h.mb,h.c0,h.cn,h.n2,h.k0,h.e0,h.ln,h.uq,fun b hb' => Nat.lt_of_lt_of_le (h.fl b hb') hb.size⟩
theorem AG.butF {G : Nat→Prop} {w w' : World} {pa pm : Nat} {nn kk : Int} {s : St} {F : Nat→Prop} (h : AG w pa pm nn kk s F) (hb : ButF G w w') (hF : ∀ b,F b→¬ G b) (hm : ¬ G pm) : AG w' pa pm nn kk s F :=
 h.move hb.size fun b hf => hf.elim (fun hf => hb.block b (h.fl b hf) (hF b hf)) (fun e => hb.block b (e ▸ h.mb.lt) (e ▸ hm))
structure Two (w : World) (pa pm ra rm : Nat) (nn kk : Int) (s : St) (B0 : Nat) (F R : Nat→Prop) : Prop where
 p : AG w pa pm nn kk s F
 r : RG w ra rm nn kk s R
 d : ∀ b,F b→¬ R b
 d1 : ¬ R pm
 d2 : ¬ F rm
 d3 : pm ≠ rm
 f : ∀ b,F b→B0≤b
 g : ∀ b,R b→B0≤b
 m1 : B0≤pm
 m2 : B0≤rm
 sw : Sw s
structure Half (w : World) (pa pm ra rm : Nat) (nn kk : Int) (s t : St) (B0 : Nat) (F R : Nat→Prop) : Prop where
 p : AG w pa pm nn kk t F
 r : RG w ra rm nn kk s R
 d : ∀ b,F b→¬ R b
 d1 : ¬ R pm
 d2 : ¬ F rm
 d3 : pm ≠ rm
 f : ∀ b,F b→B0≤b
 g : ∀ b,R b→B0≤b
 m1 : B0≤pm
 m2 : B0≤rm
theorem Two.half {w w1 : World} {pa pm ra rm : Nat} {nn kk : Int} {s t : St} {B0 : Nat} {F F1 R : Nat→Prop} (h : Two w pa pm ra rm nn kk s B0 F R) (hG : AG w1 pa pm nn kk t F1) (hF : ∀ b,F1 b→F b ∨ w.heap.size≤b) (hb : ButF (fun b => b = pm ∨ F b) w w1) : Half w1 pa pm ra rm nn kk s t B0 F1 R:=by
 have hml:=h.p.mb.lt
 have hrl:=h.r.mb.lt
 have h1:=h.m1
 refine ⟨hG,h.r.butF hb (fun b hr hf => hf.elim (fun e => h.d1 (e ▸ hr)) fun hf => h.d b hf hr) (fun hf => hf.elim (fun e => h.d3 e.symm) h.d2),fun b hf hr => (hF b hf).elim (fun hf => h.d b hf hr) fun hs => by have:=h.r.fl b hr; omega,h.d1,fun hf => (hF rm hf).elim h.d2 fun hs => by omega,h.d3,fun b hf => (hF b hf).elim (h.f b) fun hs => by omega,h.g,h.m1,h.m2⟩
theorem Half.two {w w1 : World} {pa pm ra rm : Nat} {nn kk : Int} {s t : St} {B0 : Nat} {F R R1 : Nat→Prop} (h : Half w pa pm ra rm nn kk s t B0 F R) (hG : RG w1 ra rm nn kk t R1) (hR : ∀ b,R1 b→R b ∨ w.heap.size≤b) (hb : ButF (fun b => b = rm ∨ R b) w w1) (hs : Sw t) : Two w1 pa pm ra rm nn kk t B0 F R1:=by
 have hml:=h.p.mb.lt
 have hrl:=h.r.mb.lt
 have h1:=h.m1
 refine ⟨h.p.butF hb (fun b hf hr => hr.elim (fun e => h.d2 (e ▸ hf)) fun hr => h.d b hf hr) (fun hr => hr.elim h.d3 h.d1),hG,fun b hf hr => (hR b hr).elim (fun hr => h.d b hf hr) fun hs => by have:=h.p.fl b hf; omega,fun hr => (hR pm hr).elim h.d1 fun hs => by omega,h.d2,h.d3,h.f,fun b hr => (hR b hr).elim (h.g b) fun hs => by omega,h.m1,h.m2,hs⟩
theorem Two.below {w w' : World} {pa pm ra rm : Nat} {nn kk : Int} {s : St} {B0 : Nat} {F R : Nat→Prop} (h : Two w pa pm ra rm nn kk s B0 F R) (k : Below w.heap.size w w') : Two w' pa pm ra rm nn kk s B0 F R:={ h with p:=h.p.below k,r:=h.r.below k }
theorem Half.below {w w' : World} {pa pm ra rm : Nat} {nn kk : Int} {s t : St} {B0 : Nat} {F R : Nat→Prop} (h : Half w pa pm ra rm nn kk s t B0 F R) (k : Below w.heap.size w w') : Half w' pa pm ra rm nn kk s t B0 F R:={ h with p:=h.p.below k,r:=h.r.below k }
end Nt
namespace Nt

structure Cl where
 kind : Int
 xk : Int
 xd : Int
 xp : List (Int × Int)
 xt : Int
 n : Int
 v : Int
 kids : List Int
structure C10 (w : World) (b o : Nat) (kd xk : Int) (sd : Bool) (ad : Option Addr) (ld cd : Nat) (ap : Option Addr) (np cp : Nat) (sk : Bool) (ak : Option Addr) (lk ck : Nat) (n v : Int) (ka : Option Addr) (kn kc : Nat) : Prop where
 c0 : w.cell? ⟨b,o,none⟩ = some (.int .i64 kd)
 c1 : w.cell? ⟨b,o + 1,none⟩ = some (.int .i64 xk)
 c2 : w.cell? ⟨b,o + 2,none⟩ = some (.bool sd)
 c3 : w.cell? ⟨b,o + 3,none⟩ = some (.slice ad ld cd)
 c4 : w.cell? ⟨b,o + 4,none⟩ = some (.slice ap np cp)
 c5 : w.cell? ⟨b,o + 5,none⟩ = some (.bool sk)
 c6 : w.cell? ⟨b,o + 6,none⟩ = some (.slice ak lk ck)
 c7 : w.cell? ⟨b,o + 7,none⟩ = some (.int .i64 n)
 c8 : w.cell? ⟨b,o + 8,none⟩ = some (.int .i64 v)
 c9 : w.cell? ⟨b,o + 9,none⟩ = some (.slice ka kn kc)
theorem C10.below {w w' : World} {b o : Nat} {kd xk : Int} {sd : Bool} {ad : Option Addr} {ld cd : Nat} {ap : Option Addr} {np cp : Nat} {sk : Bool} {ak : Option Addr} {lk ck : Nat} {n v : Int} {ka : Option Addr} {kn kc : Nat} (h : C10 w b o kd xk sd ad ld cd ap np cp sk ak lk ck n v ka kn kc) (k : Below w.heap.size w w') : C10 w' b o kd xk sd ad ld cd ap np cp sk ak lk ck n v ka kn kc:=by
 have hb : b < w.heap.size:=World.block_lt_of_cell? w ⟨b,o,none⟩ h.c0
 have hc : ∀ i,w'.cell? ⟨b,i,none⟩ = w.cell? ⟨b,i,none⟩:=fun i => k.cell (p:=⟨b,i,none⟩) hb
 exact ⟨(hc _).trans h.c0,(hc _).trans h.c1,(hc _).trans h.c2,(hc _).trans h.c3,(hc _).trans h.c4,(hc _).trans h.c5,(hc _).trans h.c6,(hc _).trans h.c7,(hc _).trans h.c8,(hc _).trans h.c9⟩
def CA (w : World) (b o : Nat) (m : Cl) (B : Nat) : Prop :=
 ∃ sd ad ld cd ap np cp sk ak lk ck ka kn kc,C10 w b o m.kind m.xk sd ad ld cd ap np cp sk ak lk ck m.n m.v ka kn kc ∧
  Zm w sd ad ld cd m.xd∧ld≤B∧Pr w ap np m.xp B∧np≤209716∧Zm w sk ak lk ck m.xt∧lk≤B∧IL w ka kn m.kids∧kn≤B∧I64 m.kind∧I64 m.n∧I64 m.v∧(ka = none→kn = 0∧kc = 0)
theorem CA.mono {w : World} {b o : Nat} {m : Cl} {B B' : Nat} (h : CA w b o m B) (hB : B≤B') : CA w b o m B':=by
 obtain ⟨sd,ad,ld,cd,ap,np,cp,sk,ak,lk,ck,ka,kn,kc,h0,g1,g2,g3,g4,g5,g6,g7,g8,g9⟩:=h
 exact ⟨sd,ad,ld,cd,ap,np,cp,sk,ak,lk,ck,ka,kn,kc,h0,g1,by omega,g3.mono hB,g4,g5,by omega,g7,by omega,g9⟩
def CL (w : World) (ad : Option Addr) (n : Nat) (R : List Cl) (B : Nat) : Prop :=
 R.length = n∧(n = 0 ∨ ∃ b off,ad = some ⟨b,off,none⟩∧b < w.heap.size∧∀ i (h : i < R.length),CA w b (off + i * 10) R[i] B)
theorem CL.mono {w : World} {ad : Option Addr} {n : Nat} {R : List Cl} {B B' : Nat} (h : CL w ad n R B) (hB : B≤B') : CL w ad n R B':=by
 refine ⟨h.1,?_⟩
 rcases h.2 with h2 | ⟨b,off,h2,h3,h4⟩
 ·exact .inl h2
 exact .inr ⟨b,off,h2,h3,fun i hi => (h4 i hi).mono hB⟩
theorem app_il {w : World} {ops : Array Oper} {rest : List Oper} {o : Oper} {a : Act} {Q : Exit→Act→World→Prop} (hgd : o.guard = none) (s x : Operand) (ho : o.op = .call { callee:=.builtin .append,args:=#[s,x],argTypes:=#[43,43] }) (hs : a.eval s = .slice none 0 0)
  (ad : Option Addr) (m c : Nat) (l : List Int) (hx : a.eval x = .slice ad m c) (hzn : ad = none→m = 0∧c = 0) (hI : IL w ad m l) (h63 : m≤1048576)
  (h : ∀ a' c' w',IL w' a' m l→New w.heap.size a' m→Below w.heap.size w w'→wpList Tryz.prog ops Q rest (a.put o.dst (.slice a' m c')) w') : wpList Tryz.prog ops Q (o :: rest) a w:=by
 obtain ⟨i0,hi,hz0,hz1,hz2⟩:=info_parts infoI8
 have hlen:=hI.1
 cases ad with
 | none =>
  obtain ⟨rfl,rfl⟩:=hzn rfl
  obtain rfl : l = []:=List.eq_nil_of_length_eq_zero hlen
  refine wpList_append_own_none hgd s x 43 ho w.heap.size 3 i0 1 Tryz.underlying43 hi (.slice none 0 0) 0 [] hs (World.ownsRow_nil _ _ _ _) hx ?_
  exact h none 0 w ⟨rfl,.inl rfl⟩ (fun _ _ e _ => by cases e) (Below.refl _ _)
 | some a0 =>
  have hc : ∀ j u,(l.map (Value.int .i64))[j]? = some u→w.cell? (a0.add j) = some u:=by
   intro j u hu
   obtain ⟨hj,rfl⟩:=List.getElem?_eq_some_iff.1 hu
   have hj2 : j < l.length:=by simpa using hj
   rcases hI.2 with h0 | ⟨b,off,e,hb,h2⟩
   ·omega
   cases e
   rw [List.getElem_map,Addr.add_lit]
   exact (h2 j hj2).1
  have hI6 : ∀ x ∈ l,I64 x:=fun x hx => by
   obtain ⟨j,hj,rfl⟩:=List.mem_iff_getElem.1 hx
   rcases hI.2 with h0 | ⟨b,off,e,hb,h2⟩
   ·omega
   exact (h2 j hj).2
  refine wpList_append_own_at w hgd s x 43 ho w.heap.size 3 i0 _ 1 8 Tryz.underlying43 hi hz0 hz1 hz2 rfl (by decide) (.slice none 0 0) 0 [] hs (World.ownsRow_nil _ _ _ _) a0 m c (l.map (Value.int .i64)) hx (by rw [List.length_map,hlen]; omega) hc (fun u hu => by obtain ⟨x,_,rfl⟩:=List.mem_map.1 hu; rfl) (by unfold maxLen; omega) o_m (Nat.le_refl _) ?_
  intro v' w' h1 h2 _ h4
  rw [List.nil_append,Nat.zero_add] at h1
  obtain ⟨a',c',rfl,h5,h6⟩:=row_il h1 hI6
  exact h a' c' w' h5 h6 ((Below.refl w.heap.size w).grown h2 (Nat.le_refl _) (fun k e => by cases e))
end Nt
namespace Nt

set_option maxRecDepth 100000 in
set_option maxHeartbeats 3200000 in
theorem same8_law {w : World} {pa pm ra rm : Nat} {nn kk : Int} {s : St} {B0 : Nat} {F R : Nat→Prop} (hT : Two w pa pm ra rm nn kk s B0 F R) :
  Calls Tryz.prog 20 #[.pointer (some ⟨pa,0,none⟩),.pointer (some ⟨ra,0,none⟩)] w fun e w' => e = .returned (.bool true)∧Below w.heap.size w w':=by
 have hln:=hide hT.p.ax.len
 have hme:=hide (meter8_n hT.p.ax)
 have c0:=hT.p.c0
 have cn:=hT.p.cn
 have n2:=hT.p.n2
 have e0:=hT.p.e0
 have e2:=hT.p.e2
 have ln:=hT.p.ln
 go_enter Tryz.func20,Tryz.ntmps20
 go_wp2_with fail
 refine hln.out.mono ?_
 rintro e w1 ⟨rfl,rfl⟩
 go_wp2_with fail
 refine hme.out.mono ?_
 rintro e w2 ⟨rfl,rfl⟩
 go_wp2_with fail
 refine (spent_n hT.p.mb c0 o_m e0 e2).mono ?_
 rintro e w3 ⟨rfl,k3⟩
 replace hT:=hide (hT.below k3)
 clear hln hme
 have hme:=hide (meter8_n hT.out.p.ax)
 go_wp2_with fail
 refine hme.out.mono ?_
 rintro e w4 ⟨rfl,rfl⟩
 go_wp2_with fail
 refine (over_n hT.out.p.mb c0 o_m e0 e2).mono ?_
 rintro e w5 ⟨rfl,k5⟩
 replace hT:=hide (hT.out.below k5)
 clear hme
 have k15:=hide (grow_step k5 k3)
 clear k3 k5
 obtain ⟨C,nv,X,hA, -, -⟩:=hT.out.r.ar
 have u0:=hA.c0
 have u1:=hA.c1
 obtain ⟨av,cv,rfl⟩:=hA.form
 have v2:=hT.out.r.mb.c2
 have v3:=hT.out.r.mb.c3
 replace hA:=hide hA
 have hXl:=hA.out.len
 go_wp2_with fail
 go_loopw [8] (fun i wr => ∃ t : Nat,t≤s.L.length∧i = .int .i64 t∧Hid (Below w5.heap.size w5 wr)) (fun i _ => s.L.length - (intOf i).toNat)
 case atStart => exact ⟨0,Nat.zero_le _,rfl,hide (Below.refl _ _)⟩
 case round =>
  obtain ⟨t,ht,rfl,kr⟩:=hrel
  by_cases htn : t < s.L.length
  ·have hnd:=hide (node8_n (hT.out.below kr.out).p.ax htn o_m)
   have hst:=hT.out.sw.st s.L[t] (List.getElem_mem htn)
   have hNC:=(hA.out.below kr.out).nodes t htn
   obtain ⟨g,cap,hsl,hgl,hcell⟩:=(hA.out.below kr.out).cell htn
   injection hsl with ea eb ec
   subst ea ec
   have hc:=fun j hj => hcell j hj o_m
   have e0:=hc 0 (by decide)
   have e1:=hc 1 (by decide)
   have e2:=hc 2 (by decide)
   have e3:=hc 3 (by decide)
   have e4:=hc 4 (by decide)
   have e5:=hc 5 (by decide)
   have e6:=hc 6 (by decide)
   have e7:=hc 7 (by decide)
   clear hc hcell
   have hral : ra < wr.heap.size:=(hA.out.below kr.out).pal
   have ur:=(hA.out.below kr.out).c0
   generalize X[t] = xt at *
   generalize s.L[t] = nd at *
   obtain ⟨ykd,ysd,yad,yld,ycd,yap,ynp,ycp,ysk,yak,ylk,yck,yvr,yka,ykn,ykc⟩:=xt
   simp only [NR.enc,List.getElem?_cons_zero,List.getElem?_cons_succ,Nat.add_zero] at e0 e1 e2 e3 e4 e5 e6 e7
   have hkk:=hNC.kd
   have hvv:=hNC.vr
   dsimp only at hkk hvv
   subst hkk hvv
   have hlx:=hide k15
   go_wp2_with fail
   refine hnd.out.mono ?_
   rintro e v8 ⟨sd,ad,ld,cd,ap,np,cp,sk,ak,lk,ck,ka,kn,kc,rfl,hzd,hPn,hzk,hIk,hnk,k8⟩
   clear hnd
   have b9:=below_alloc v8 (.cells #[.int .i64 nd.kind,.bool sd,.slice ad ld cd,.slice ap np cp,.bool sk,.slice ak lk ck,.int .i64 nd.var,.slice ka kn kc] 65)
   have y9:=NB.new v8 nd.kind sd ad ld cd ap np cp sk ak lk ck nd.var ka kn kc
   have k9:=grow_step b9 k8
   have ur9:=(k9.cell (p:=⟨ra,0,none⟩) hral).trans ur
   have f0:=(k9.cell (p:=⟨g,_,none⟩) hgl).trans e0
   have f1:=(k9.cell (p:=⟨g,_,none⟩) hgl).trans e1
   have f2:=(k9.cell (p:=⟨g,_,none⟩) hgl).trans e2
   have f3:=(k9.cell (p:=⟨g,_,none⟩) hgl).trans e3
   have f4:=(k9.cell (p:=⟨g,_,none⟩) hgl).trans e4
   have f5:=(k9.cell (p:=⟨g,_,none⟩) hgl).trans e5
   have f6:=(k9.cell (p:=⟨g,_,none⟩) hgl).trans e6
   have f7:=(k9.cell (p:=⟨g,_,none⟩) hgl).trans e7
   clear e0 e1 e2 e3 e4 e5 e6 e7 ur
   replace hzd:=hzd.below b9
   replace hPn:=hPn.below b9
   replace hzk:=hzk.below b9
   replace hIk:=hIk.below b9
   have hNC9:=hNC.move (w':=v8.alloc (.cells #[.int .i64 nd.kind,.bool sd,.slice ad ld cd,.slice ap np cp,.bool sk,.slice ak lk ck,.int .i64 nd.var,.slice ka kn kc] 65)) k9.size (fun b _ hl => k9.block b hl) (fun b hb _ => hb)
   replace k9:=hide (grow_step k9 kr.out)
   have hb9:=b9.size
   clear b9 k8 hNC
   have b10:=below_alloc (v8.alloc (.cells #[.int .i64 nd.kind,.bool sd,.slice ad ld cd,.slice ap np cp,.bool sk,.slice ak lk ck,.int .i64 nd.var,.slice ka kn kc] 65)) (.cells #[.int .i64 nd.kind,.bool ysd,.slice yad yld ycd,.slice yap ynp ycp,.bool ysk,.slice yak ylk yck,.int .i64 nd.var,.slice yka ykn ykc] 65)
   have y10:=NB.new (v8.alloc (.cells #[.int .i64 nd.kind,.bool sd,.slice ad ld cd,.slice ap np cp,.bool sk,.slice ak lk ck,.int .i64 nd.var,.slice ka kn kc] 65)) nd.kind ysd yad yld ycd yap ynp ycp ysk yak ylk yck nd.var yka ykn ykc
   have x10:=y9.below b10
   have g1:=x10.c1
   have g2:=x10.c2
   have g3:=x10.c3
   have g4:=x10.c4
   have g5:=x10.c5
   have j1:=y10.c1
   have j2:=y10.c2
   have j3:=y10.c3
   have j4:=y10.c4
   have j5:=y10.c5
   rw [show (v8.alloc (.cells #[.int .i64 nd.kind,.bool sd,.slice ad ld cd,.slice ap np cp,.bool sk,.slice ak lk ck,.int .i64 nd.var,.slice ka kn kc] 65)).heap.size = v8.heap.size + 1 from by simp] at y10 j1 j2 j3 j4 j5
   go_wp2_with fail
   replace hzd:=hzd.below b10
   replace hPn:=hPn.below b10
   replace hzk:=hzk.below b10
   replace hIk:=hIk.below b10
   have hNCa:=hNC9.move (w':=(v8.alloc (.cells #[.int .i64 nd.kind,.bool sd,.slice ad ld cd,.slice ap np cp,.bool sk,.slice ak lk ck,.int .i64 nd.var,.slice ka kn kc] 65)).alloc (.cells #[.int .i64 nd.kind,.bool ysd,.slice yad yld ycd,.slice yap ynp ycp,.bool ysk,.slice yak ylk yck,.int .i64 nd.var,.slice yka ykn ykc] 65)) b10.size (fun b _ hl => b10.block b hl) (fun b hb _ => hb)
   have k10:=hide (grow_step b10 k9.out)
   clear g1 g2 g3 g4 g5 j1 j2 j3 j4 j5 f0 f1 f2 f3 f4 f5 f6 f7 ur9 y9 b10 hNC9 k9
   generalize (v8.alloc (.cells #[.int .i64 nd.kind,.bool sd,.slice ad ld cd,.slice ap np cp,.bool sk,.slice ak lk ck,.int .i64 nd.var,.slice ka kn kc] 65)).alloc (.cells #[.int .i64 nd.kind,.bool ysd,.slice yad yld ycd,.slice yap ynp ycp,.bool ysk,.slice yak ylk yck,.int .i64 nd.var,.slice yka ykn ykc] 65) = w10 at *
   generalize v8.heap.size = p at *
   have hlk:=(zn_same hzk hNCa.zk).2
   have hld:=(zn_same hzd hNCa.zd).2
   have hnp : np = ynp:=hPn.1.symm.trans hNCa.pn.1
   have hb1:=hNCa.hnp
   have hb2:=hNCa.hlk
   have hb3:=hNCa.hld
   have hb4:=hNCa.hkn
   dsimp only at hlk hld hnp hb1 hb2 hb3 hb4
   subst hlk hld hnp
   refine Calls.mono (Rf.same5_t (B:=2097152) (n2:=np) (l2:=lk) hst hPn hzk hb2 hNCa.pn.pn hNCa.zk hb2 o_m o_m) ?_
   rintro e w11 ⟨rfl,k11⟩
   have x11:=x10.below k11
   have y11:=y10.below k11
   replace hzd:=hzd.below k11
   replace hIk:=hIk.below k11
   have hzy : Zn w11 ysd yad ld ycd nd.d:=hNCa.zd.below k11
   have hIy : IL w11 yka ykn nd.kids:=hNCa.kids.below k11
   have ka1:=hide (grow_step k11 k10.out)
   clear x10 y10 hNCa k11 k10 hPn hzk
   have g1:=x11.c1
   have g2:=x11.c2
   have j1:=y11.c1
   have j2:=y11.c2
   go_wp2_with fail
   clear g1 g2 j1 j2
   refine (ris_t hzd hzy.zm o_m o_m rfl).mono ?_
   rintro e w12 ⟨rfl,k12⟩
   have x12:=x11.below k12
   have y12:=y11.below k12
   replace hIk:=hide (hIk.below k12)
   replace hIy:=hide (hIy.below k12)
   have ka2:=hide (grow_step k12 ka1.out)
   clear x11 y11 k12 ka1 hzd hzy
   have g0:=x12.c0
   have g6:=x12.c6
   have g7:=x12.c7
   have j0:=y12.c0
   have j6:=y12.c6
   have j7:=y12.c7
   go_wp2_with fail
   refine (ints_n hIk.out hIy.out (by have:=hIk.out.1; have:=hIy.out.1; omega)).mono ?_
   rintro e w13 ⟨rfl,k13⟩
   rw [decide_eq_true rfl]
   have ka3:=hide (grow_step k13 ka2.out)
   clear g0 g6 g7 j0 j6 j7 x12 y12 k13 ka2 hIk hIy
   go_wp2_with fail
   exact ⟨⟨t + 1,by omega,by go_num,ka3⟩,by simp [intOf]; omega⟩
  obtain rfl : t = s.L.length:=by omega
  clear hA hT u0 u1 v2 v3
  go_wp2_with fail
  go_ret
  exact ⟨rfl,grow_step kr.out k15.out⟩
end Nt
end Go.Proofs.YtcfmkjegolpgaaaGreatDoor
