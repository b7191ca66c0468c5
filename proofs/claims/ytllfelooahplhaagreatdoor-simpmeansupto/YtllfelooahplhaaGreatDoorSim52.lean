/-
 The law SimpMeans of layer 9 returns true for every recipe,every list of ints and every list of values,as they may stand,where what it reads is of bulk at most 1048576: what And and Or join,what Negate turns and what Again joins anew says what it should,under any values.
-/
import Derived.Test.YtllfelooahplhaaGreatDoorSim29
import Derived.Test.YtllfelooahplhaaGreatDoorSim51
import Derived.Test.YtllfelooahplhaaGreatDoorSim50
namespace Go.Proofs.YtllfelooahplhaaGreatDoor.simpMeansCard
open Go.ChangeShapes Go.WideShapes Go.ChangeAt Go.RowKit

set_option maxRecDepth 100000 in
theorem contract (H:Type)(enc:TypeId × Value→H)(W:World)(base:Nat)(args:Array Value)(ds gs:List (DataW H))(before:List MemPlace)
  (hval: ∀(j:Nat) t v,Tryz.f3.params[j]? =some t→args[j]? =some v→Value.okWide Tryz.prog W .any base t v)
  (hW:DataW.Whole enc Tryz.prog Tryz.f3.params.toList Rows.simpMeansSpec.vars false W args.toList ds gs before)(hL:laidMetH Tryz.prog Rows.simpMeansUptoRow.laid W)(hk:Rows.uptoSmall H (ds++gs)=true):
  Calls Tryz.prog 3 args W fun e W'=> ∃v,e= .returned v∧Rows.simpMeansSpec.post enc Tryz.prog Tryz.f3 false true false false W args v W':=by
 have hW':=hW
 obtain⟨p,q,hA0,hV,rfl,hfz,hnd⟩:=hW
 have hA:DataW.TrodAll enc Tryz.prog W 0 (fun _=>true) true Tryz.f3.params.toList args.toList ds p:=hA0
 rw[Tryz.params3]at hA hval
 obtain⟨v0,vs0,d0,ds0,p0,q0,hargs,rfl,rfl,h0,r0⟩:=trodAll_cons hA
 obtain⟨v1,vs1,d1,ds1,p1,q1,rfl,rfl,rfl,h1,r1⟩:=trodAll_cons r0
 obtain⟨v2,vs2,d2,ds2,p2,q2,rfl,rfl,rfl,h2,r2⟩:=trodAll_cons r1
 obtain⟨rfl,rfl,rfl⟩:=trodAll_nil r2
 obtain rfl:args= #[v0,v1,v2]:=by cases args;simp_all
 obtain⟨rfl,rfl⟩:=trodVars_none hV
 have hbulk:=Fv.bulk_bound hk
 simp only[Rows.uptoBulkAll,List.append_nil]at hbulk
 have k0:=h0
 have lt0: ∀x∈p0,x.block<W.heap.size:=by obtain⟨m,hm⟩:=k0;exact DataW.trod_lt m _ _ _ hm
 obtain⟨a0,n0,c0,rc0,rfl,ml0,bn0⟩:=Fv.open_ml (hval 0 22 v0 rfl rfl) h0 o_m
 have k1:=h1
 have lt1: ∀x∈p1,x.block<W.heap.size:=by obtain⟨m,hm⟩:=k1;exact DataW.trod_lt m _ _ _ hm
 obtain⟨a1,n1,c1,rfl⟩:=okWide_slice Tryz.underlying23 (hval 1 23 v1 rfl rfl)
 obtain⟨⟨xs1,il1⟩,bn1⟩:=Fv.open_il k1
 have k2:=h2
 have lt2: ∀x∈p2,x.block<W.heap.size:=by obtain⟨m,hm⟩:=k2;exact DataW.trod_lt m _ _ _ hm
 obtain⟨ad2,n2,cp2,ps2,rfl,pr2,bn2,_hc2⟩:=Fv.open_values h2 (hval 2 24 v2 rfl rfl)
 have hbulk:=bulk_bound hk
 simp only[Rows.uptoBulkAll,List.append_nil]at hbulk
 have htab:Tab W:=tab_of hL
 clear hA0
 refine(simpMeans_walk (B:=1048576) (ml0.mono o_m) (Nt.ml_sm9 ml0) o_m o_m il1 o_m (pr2.mono o_m) o_m htab).mono fun e W' ⟨he,bel⟩=> ?_
 subst he
 exact⟨_,rfl,_,_,_,[],_,[],hW',trodAll_mk1 (shut_bool Tryz.underlying4 _),(trodAll_cons_mk (Below.trod laidOut k_f (of_decide_eq_true k_f) k0 bel lt0) (trodAll_cons_mk (Below.trod laidOut k_f (of_decide_eq_true k_f) k1 bel lt1) (trodAll_cons_mk (Below.trod laidOut k_f (of_decide_eq_true k_f) k2 bel lt2) trodAll_mk0))),rfl,bel.frame _,fun h=>by cases h⟩

theorem laid_met (os:Os):laidMet Tryz.prog Rows.simpMeansUptoRow.laid ((laidOn (World.holding Tryz.prog os ⟨#[],#[],[]⟩)).forCall (fun _ _=>0) ⟨#[],#[.slice none 0 0,.slice none 0 0,.slice none 0 0],[]⟩).memory:=
 laidMet_of_run' 8 k_f k_f
theorem reads (os:Os){H:Type}(enc:TypeId × Value→H): ∃places,DataW.whole enc Tryz.prog ((laidOn (World.holding Tryz.prog os ⟨#[],#[],[]⟩)).forCall (fun _ _=>0) ⟨#[],#[.slice none 0 0,.slice none 0 0,.slice none 0 0],[]⟩).memory Tryz.f3.params.toList Rows.simpMeansSpec.vars false (#[.slice none 0 0,.slice none 0 0,.slice none 0 0]:Array Value).toList 8=some ([.nil,.nil,.nil],[],places):=
 ⟨[],by kernel_rfl⟩

set_option maxRecDepth 100000 in
theorem liftedUpto (os:Os)(started:os.Started)(H:Type)(enc:TypeId × Value→H)(F:Stop.Interp):
  ReturnsInHanded {} Tryz.checked os 3 .any ((Rows.OpenSpec.upto Rows.simpMeansSpec).preRow enc Tryz.prog Tryz.f3 Rows.simpMeansUptoRow.domain false Rows.simpMeansUptoRow.laid) (((Rows.OpenSpec.upto Rows.simpMeansSpec).at F).post enc Tryz.prog Tryz.f3 false true false false):=by
 obtain⟨places,hx⟩:=reads os enc
 refine returnsInHanded_of_row (C:=Tryz.checked) (s:=Rows.OpenSpec.upto Rows.simpMeansSpec) own started k_f Tryz.func3
  (witness_row_at (enc:=enc) (C:=Tryz.checked) false (laidOn (World.holding Tryz.prog os ⟨#[],#[],[]⟩)) #[.slice none 0 0,.slice none 0 0,.slice none 0 0] rfl k_f k_f k_f
   (OpenSpec.preRow_of_cond 8 hx k_f (fun k hk=>by cases hk;kernel_rfl) k_f (laid_met os))) ?_
 intro W base args ds gs before hval hW _ hcond _ hL _ _
 exact contract H enc W base args ds gs before hval hW hL (hcond _ rfl)

theorem saidUpto :Rows.SimpMeansUptoSaid:=
 OpenClaim.holds_of_cond 3 Tryz.f3 rfl rfl rfl rfl rfl rfl rfl ⟨rfl,rfl,rfl,rfl,rfl⟩ rfl rfl rfl rfl rfl k_f Tryz.func3 k_f
  (of_decide_eq_true (by kernel_rfl)) (by unfold Func.isWrapper;first|(rw[if_pos (by decide+kernel)];kernel_rfl)|(rw[if_neg (by decide+kernel)];exact⟨rfl,rfl⟩))
  (fun os started H enc _ F=>by rw[OpenClaim.pre_eq_preRow];exact liftedUpto os started H enc F)

theorem plain (f:FuncId)(fn:Func)(hf:Tryz.pinned.checked.prog.funcNamed Rows.simpMeansUptoRow.func=some f)(hfn:Tryz.pinned.checked.prog.funcs[f]? =some fn):
  false=Tryz.pinned.checked.prog.looks []∧∀(j:Nat) t,fn.params[j]? =some t→Tryz.pinned.checked.prog.wantsStandIn t=false:=by
 obtain rfl:f=3:=Option.some.inj ((show Tryz.prog.funcNamed Rows.simpMeansUptoRow.func=some 3 by kernel_rfl).symm.trans hf) |>.symm
 obtain rfl:fn=Tryz.f3:=(Option.some.inj (Tryz.func3.symm.trans hfn)).symm
 refine⟨by kernel_rfl,fun j t ht=> ?_⟩
 rw[Tryz.params3]at ht
 have hm:t∈(#[22,23,24]:Array Nat):=Array.mem_of_getElem? ht
 simp only[List.mem_toArray,List.mem_cons,List.not_mem_nil,or_false]at hm
 rcases hm with rfl|rfl|rfl
 ·exact(show Tryz.prog.wantsStandIn 22=false by kernel_rfl)
 ·exact(show Tryz.prog.wantsStandIn 23=false by kernel_rfl)
 exact(show Tryz.prog.wantsStandIn 24=false by kernel_rfl)

theorem cardUpto :Rows.SimpMeansUptoCardSaid:=
 Claim7.holds_tied_plain_at .later [] _ _ _ _ saidUpto (fun _ h=>by cases h) k_f (fun _ h=>by cases h) simpMeansUpto_row_tie rfl ⟨rfl,rfl⟩ k_f rfl plain k_f
end Go.Proofs.YtllfelooahplhaaGreatDoor.simpMeansCard
namespace Go.Proofs.YtllfelooahplhaaGreatDoor
theorem simpMeans_upto_card :Rows.SimpMeansUptoCardSaid:=simpMeansCard.cardUpto
end Go.Proofs.YtllfelooahplhaaGreatDoor
