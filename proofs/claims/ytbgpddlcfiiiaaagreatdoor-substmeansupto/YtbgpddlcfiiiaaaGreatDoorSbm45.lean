/-
 The law SubstMeans of layer 12 returns true for every recipe,every two ints,every term and every list of values,as they may stand,where what it reads is of bulk at most 1048576: a plain formula with a term in a variable's place is true under values just where it is with the value of the term; with values in the places of its variables it is true just where it is under them.
-/
import Derived.Test.YtbgpddlcfiiiaaaGreatDoorSbm27
import Derived.Test.YtbgpddlcfiiiaaaGreatDoorSbm44
import Derived.Test.YtbgpddlcfiiiaaaGreatDoorSbm38
import Derived.Test.YtbgpddlcfiiiaaaGreatDoorSbm43
namespace Go.Proofs.YtbgpddlcfiiiaaaGreatDoor.substMeansCard
open Go.ChangeShapes Go.WideShapes Go.ChangeAt Go.RowKit

set_option maxRecDepth 100000 in
theorem contract (H:Type)(enc:TypeId × Value→H)(W:World)(base:Nat)(args:Array Value)(ds gs:List (DataW H))(before:List MemPlace)
  (hval: ∀(j:Nat) t v,Tryz.f3.params[j]? =some t→args[j]? =some v→Value.okWide Tryz.prog W .any base t v)
  (hW:DataW.Whole enc Tryz.prog Tryz.f3.params.toList Rows.substMeansSpec.vars false W args.toList ds gs before)(hL:laidMetH Tryz.prog Rows.substMeansUptoRow.laid W)(hk:Rows.uptoSmall H (ds++gs)=true):
  Calls Tryz.prog 3 args W fun e W'=> ∃v,e= .returned v∧Rows.substMeansSpec.post enc Tryz.prog Tryz.f3 false true false false W args v W':=by
 have hW':=hW
 obtain⟨p,q,hA0,hV,rfl,hfz,hnd⟩:=hW
 have hA:DataW.TrodAll enc Tryz.prog W 0 (fun _=>true) true Tryz.f3.params.toList args.toList ds p:=hA0
 rw[Tryz.params3]at hA hval
 obtain⟨v0,vs0,d0,ds0,p0,q0,hargs,rfl,rfl,h0,r0⟩:=trodAll_cons hA
 obtain⟨v1,vs1,d1,ds1,p1,q1,rfl,rfl,rfl,h1,r1⟩:=trodAll_cons r0
 obtain⟨v2,vs2,d2,ds2,p2,q2,rfl,rfl,rfl,h2,r2⟩:=trodAll_cons r1
 obtain⟨v3,vs3,d3,ds3,p3,q3,rfl,rfl,rfl,h3,r3⟩:=trodAll_cons r2
 obtain⟨v4,vs4,d4,ds4,p4,q4,rfl,rfl,rfl,h4,r4⟩:=trodAll_cons r3
 obtain⟨rfl,rfl,rfl⟩:=trodAll_nil r4
 obtain rfl:args= #[v0,v1,v2,v3,v4]:=by cases args;simp_all
 obtain⟨rfl,rfl⟩:=trodVars_none hV
 have hbulk:=Fv.bulk_bound hk
 simp only[Rows.uptoBulkAll,List.append_nil]at hbulk
 have k0:=h0
 have lt0: ∀x∈p0,x.block<W.heap.size:=by obtain⟨m,hm⟩:=k0;exact DataW.trod_lt m _ _ _ hm
 obtain⟨a0,n0,c0,rc0,rfl,ml0,bn0,fv0⟩:=Fv.open_ml5 (hval 0 22 v0 rfl rfl) h0 o_m
 have k1:=h1
 have lt1: ∀x∈p1,x.block<W.heap.size:=by obtain⟨m,hm⟩:=k1;exact DataW.trod_lt m _ _ _ hm
 obtain⟨i1,rfl,-,-,wf1⟩:=open_int Tryz.underlying3 (hval 1 3 v1 rfl rfl) h1
 have k2:=h2
 have lt2: ∀x∈p2,x.block<W.heap.size:=by obtain⟨m,hm⟩:=k2;exact DataW.trod_lt m _ _ _ hm
 obtain⟨i2,rfl,-,-,wf2⟩:=open_int Tryz.underlying3 (hval 2 3 v2 rfl rfl) h2
 have k3:=h3
 have lt3: ∀x∈p3,x.block<W.heap.size:=by obtain⟨m,hm⟩:=k3;exact DataW.trod_lt m _ _ _ hm
 obtain⟨ad3,n3,cp3,s3,a3,l3,c3,ps3,z3,rfl,pr3,zm3,bl3,bn3⟩:=Fv.open_term (hval 3 28 v3 rfl rfl) h3
 have b53:=Fv.term_bulk k3
 have k4:=h4
 have lt4: ∀x∈p4,x.block<W.heap.size:=by obtain⟨m,hm⟩:=k4;exact DataW.trod_lt m _ _ _ hm
 obtain⟨ad4,n4,cp4,ps4,rfl,pr4,bn4,_hc4⟩:=Fv.open_values h4 (hval 4 29 v4 rfl rfl)
 have hbulk:=bulk_bound hk
 simp only[Rows.uptoBulkAll,List.append_nil]at hbulk
 have htab:Tab W:=tab_of hL
 clear hA0
 refine(substMeans_walk ml0 (Nt.ml_sm9 ml0) o_m o_m (wf_i64 wf1) (wf_i64 wf2) pr3 zm3 bl3 pr4 o_m _hc4 o_m o_m (fun m hm=>by have h1:=fv0 m hm;have h2:=xp_len m;omega) htab).mono fun e W' ⟨he,bel⟩=> ?_
 subst he
 exact⟨_,rfl,_,_,_,[],_,[],hW',trodAll_mk1 (shut_bool Tryz.underlying4 _),(trodAll_cons_mk (Below.trod laidOut k_f (of_decide_eq_true k_f) k0 bel lt0) (trodAll_cons_mk (Below.trod laidOut k_f (of_decide_eq_true k_f) k1 bel lt1) (trodAll_cons_mk (Below.trod laidOut k_f (of_decide_eq_true k_f) k2 bel lt2) (trodAll_cons_mk (Below.trod laidOut k_f (of_decide_eq_true k_f) k3 bel lt3) (trodAll_cons_mk (Below.trod laidOut k_f (of_decide_eq_true k_f) k4 bel lt4) trodAll_mk0))))),rfl,bel.frame _,fun h=>by cases h⟩

theorem laid_met (os:Os):laidMet Tryz.prog Rows.substMeansUptoRow.laid ((laidOn (World.holding Tryz.prog os ⟨#[],#[],[]⟩)).forCall (fun _ _=>0) ⟨#[],#[.slice none 0 0,.int .i64 0,.int .i64 0,.agg #[.slice none 0 0,.bool false,.slice none 0 0],.slice none 0 0],[]⟩).memory:=
 laidMet_of_run' 8 k_f k_f
theorem reads (os:Os){H:Type}(enc:TypeId × Value→H): ∃places,DataW.whole enc Tryz.prog ((laidOn (World.holding Tryz.prog os ⟨#[],#[],[]⟩)).forCall (fun _ _=>0) ⟨#[],#[.slice none 0 0,.int .i64 0,.int .i64 0,.agg #[.slice none 0 0,.bool false,.slice none 0 0],.slice none 0 0],[]⟩).memory Tryz.f3.params.toList Rows.substMeansSpec.vars false (#[.slice none 0 0,.int .i64 0,.int .i64 0,.agg #[.slice none 0 0,.bool false,.slice none 0 0],.slice none 0 0]:Array Value).toList 8=some ([.nil,.lit (.int .i64 0),.lit (.int .i64 0),.agg [.nil,.agg [.lit (.bool false),.nil]],.nil],[],places):=
 ⟨[],by kernel_rfl⟩

set_option maxRecDepth 100000 in
theorem liftedUpto (os:Os)(started:os.Started)(H:Type)(enc:TypeId × Value→H)(F:Stop.Interp):
  ReturnsInHanded {} Tryz.checked os 3 .any ((Rows.OpenSpec.upto Rows.substMeansSpec).preRow enc Tryz.prog Tryz.f3 Rows.substMeansUptoRow.domain false Rows.substMeansUptoRow.laid) (((Rows.OpenSpec.upto Rows.substMeansSpec).at F).post enc Tryz.prog Tryz.f3 false true false false):=by
 obtain⟨places,hx⟩:=reads os enc
 refine returnsInHanded_of_row (C:=Tryz.checked) (s:=Rows.OpenSpec.upto Rows.substMeansSpec) own started k_f Tryz.func3
  (witness_row_at (enc:=enc) (C:=Tryz.checked) false (laidOn (World.holding Tryz.prog os ⟨#[],#[],[]⟩)) #[.slice none 0 0,.int .i64 0,.int .i64 0,.agg #[.slice none 0 0,.bool false,.slice none 0 0],.slice none 0 0] rfl k_f k_f k_f
   (OpenSpec.preRow_of_cond 8 hx k_f (fun k hk=>by cases hk;kernel_rfl) k_f (laid_met os))) ?_
 intro W base args ds gs before hval hW _ hcond _ hL _ _
 exact contract H enc W base args ds gs before hval hW hL (hcond _ rfl)

theorem saidUpto :Rows.SubstMeansUptoSaid:=
 OpenClaim.holds_of_cond 3 Tryz.f3 rfl rfl rfl rfl rfl rfl rfl ⟨rfl,rfl,rfl,rfl,rfl⟩ rfl rfl rfl rfl rfl k_f Tryz.func3 k_f
  (of_decide_eq_true (by kernel_rfl)) (by unfold Func.isWrapper;first|(rw[if_pos (by decide+kernel)];kernel_rfl)|(rw[if_neg (by decide+kernel)];exact⟨rfl,rfl⟩))
  (fun os started H enc _ F=>by rw[OpenClaim.pre_eq_preRow];exact liftedUpto os started H enc F)

theorem plain (f:FuncId)(fn:Func)(hf:Tryz.pinned.checked.prog.funcNamed Rows.substMeansUptoRow.func=some f)(hfn:Tryz.pinned.checked.prog.funcs[f]? =some fn):
  false=Tryz.pinned.checked.prog.looks []∧∀(j:Nat) t,fn.params[j]? =some t→Tryz.pinned.checked.prog.wantsStandIn t=false:=by
 obtain rfl:f=3:=Option.some.inj ((show Tryz.prog.funcNamed Rows.substMeansUptoRow.func=some 3 by kernel_rfl).symm.trans hf) |>.symm
 obtain rfl:fn=Tryz.f3:=(Option.some.inj (Tryz.func3.symm.trans hfn)).symm
 refine⟨by kernel_rfl,fun j t ht=> ?_⟩
 rw[Tryz.params3]at ht
 have hm:t∈(#[22,3,3,28,29]:Array Nat):=Array.mem_of_getElem? ht
 simp only[List.mem_toArray,List.mem_cons,List.not_mem_nil,or_false]at hm
 rcases hm with rfl|rfl|rfl|rfl|rfl
 ·exact(show Tryz.prog.wantsStandIn 22=false by kernel_rfl)
 ·exact(show Tryz.prog.wantsStandIn 3=false by kernel_rfl)
 ·exact(show Tryz.prog.wantsStandIn 3=false by kernel_rfl)
 ·exact(show Tryz.prog.wantsStandIn 28=false by kernel_rfl)
 exact(show Tryz.prog.wantsStandIn 29=false by kernel_rfl)

theorem cardUpto :Rows.SubstMeansUptoCardSaid:=
 Claim7.holds_tied_plain_at .later [] _ _ _ _ saidUpto (fun _ h=>by cases h) k_f (fun _ h=>by cases h) substMeansUpto_row_tie rfl ⟨rfl,rfl⟩ k_f rfl plain k_f
end Go.Proofs.YtbgpddlcfiiiaaaGreatDoor.substMeansCard
namespace Go.Proofs.YtbgpddlcfiiiaaaGreatDoor
theorem substMeans_upto_card :Rows.SubstMeansUptoCardSaid:=substMeansCard.cardUpto
end Go.Proofs.YtbgpddlcfiiiaaaGreatDoor
