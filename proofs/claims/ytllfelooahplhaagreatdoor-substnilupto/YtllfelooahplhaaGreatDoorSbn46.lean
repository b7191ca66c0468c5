/-
 The law SubstNil of layer 12 returns true for every two ints and every term,as they may stand,where what it reads is of bulk at most 1048576: Put,Instance and Map of a nil arena answer ErrArg; and some answers that the document fixes.
-/
import Derived.Test.YtllfelooahplhaaGreatDoorSbn29
import Derived.Test.YtllfelooahplhaaGreatDoorSbn30
import Derived.Test.YtllfelooahplhaaGreatDoorSbn45
namespace Go.Proofs.YtllfelooahplhaaGreatDoor.substNilCard
open Go.ChangeShapes Go.WideShapes Go.ChangeAt Go.RowKit

set_option maxRecDepth 100000 in
theorem contract (H:Type)(enc:TypeId × Value→H)(W:World)(base:Nat)(args:Array Value)(ds gs:List (DataW H))(before:List MemPlace)
  (hval: ∀(j:Nat) t v,Tryz.f8.params[j]? =some t→args[j]? =some v→Value.okWide Tryz.prog W .any base t v)
  (hW:DataW.Whole enc Tryz.prog Tryz.f8.params.toList Rows.substNilSpec.vars false W args.toList ds gs before)(hL:laidMetH Tryz.prog Rows.substNilUptoRow.laid W)(hk:Rows.uptoSmall H (ds++gs)=true):
  Calls Tryz.prog 8 args W fun e W'=> ∃v,e= .returned v∧Rows.substNilSpec.post enc Tryz.prog Tryz.f8 false true false false W args v W':=by
 have hW':=hW
 obtain⟨p,q,hA0,hV,rfl,hfz,hnd⟩:=hW
 have hA:DataW.TrodAll enc Tryz.prog W 0 (fun _=>true) true Tryz.f8.params.toList args.toList ds p:=hA0
 rw[Tryz.params8]at hA hval
 obtain⟨v0,vs0,d0,ds0,p0,q0,hargs,rfl,rfl,h0,r0⟩:=trodAll_cons hA
 obtain⟨v1,vs1,d1,ds1,p1,q1,rfl,rfl,rfl,h1,r1⟩:=trodAll_cons r0
 obtain⟨v2,vs2,d2,ds2,p2,q2,rfl,rfl,rfl,h2,r2⟩:=trodAll_cons r1
 obtain⟨rfl,rfl,rfl⟩:=trodAll_nil r2
 obtain rfl:args= #[v0,v1,v2]:=by cases args;simp_all
 obtain⟨rfl,rfl⟩:=trodVars_none hV
 have k0:=h0
 have lt0: ∀x∈p0,x.block<W.heap.size:=by obtain⟨m,hm⟩:=k0;exact DataW.trod_lt m _ _ _ hm
 obtain⟨i0,rfl,-,-,wf0⟩:=open_int Tryz.underlying3 (hval 0 3 v0 rfl rfl) h0
 have k1:=h1
 have lt1: ∀x∈p1,x.block<W.heap.size:=by obtain⟨m,hm⟩:=k1;exact DataW.trod_lt m _ _ _ hm
 obtain⟨i1,rfl,-,-,wf1⟩:=open_int Tryz.underlying3 (hval 1 3 v1 rfl rfl) h1
 have k2:=h2
 have lt2: ∀x∈p2,x.block<W.heap.size:=by obtain⟨m,hm⟩:=k2;exact DataW.trod_lt m _ _ _ hm
 obtain⟨ad2,n2,cp2,s2,a2,l2,c2,ps2,z2,rfl,pr2,zm2,bl2,bn2⟩:=Fv.open_term (hval 2 47 v2 rfl rfl) h2
 have hbulk:=bulk_bound hk
 simp only[Rows.uptoBulkAll,List.append_nil]at hbulk
 have htab:Tab W:=tab_of hL
 clear hA0
 refine(substNil_walk i0 i1 ad2 n2 cp2 s2 a2 l2 c2 htab).mono fun e W' ⟨he,bel⟩=> ?_
 subst he
 exact⟨_,rfl,_,_,_,[],_,[],hW',trodAll_mk1 (shut_bool Tryz.underlying4 _),(trodAll_cons_mk (Below.trod laidOut k_f (of_decide_eq_true k_f) k0 bel lt0) (trodAll_cons_mk (Below.trod laidOut k_f (of_decide_eq_true k_f) k1 bel lt1) (trodAll_cons_mk (Below.trod laidOut k_f (of_decide_eq_true k_f) k2 bel lt2) trodAll_mk0))),rfl,bel.frame _,fun h=>by cases h⟩

theorem laid_met (os:Os):laidMet Tryz.prog Rows.substNilUptoRow.laid ((laidOn (World.holding Tryz.prog os ⟨#[],#[],[]⟩)).forCall (fun _ _=>0) ⟨#[],#[.int .i64 0,.int .i64 0,.agg #[.slice none 0 0,.bool false,.slice none 0 0]],[]⟩).memory:=
 laidMet_of_run' 8 k_f k_f
theorem reads (os:Os){H:Type}(enc:TypeId × Value→H): ∃places,DataW.whole enc Tryz.prog ((laidOn (World.holding Tryz.prog os ⟨#[],#[],[]⟩)).forCall (fun _ _=>0) ⟨#[],#[.int .i64 0,.int .i64 0,.agg #[.slice none 0 0,.bool false,.slice none 0 0]],[]⟩).memory Tryz.f8.params.toList Rows.substNilSpec.vars false (#[.int .i64 0,.int .i64 0,.agg #[.slice none 0 0,.bool false,.slice none 0 0]]:Array Value).toList 8=some ([.lit (.int .i64 0),.lit (.int .i64 0),.agg [.nil,.agg [.lit (.bool false),.nil]]],[],places):=
 ⟨[],by kernel_rfl⟩

set_option maxRecDepth 100000 in
theorem liftedUpto (os:Os)(started:os.Started)(H:Type)(enc:TypeId × Value→H)(F:Stop.Interp):
  ReturnsInHanded {} Tryz.checked os 8 .any ((Rows.OpenSpec.upto Rows.substNilSpec).preRow enc Tryz.prog Tryz.f8 Rows.substNilUptoRow.domain false Rows.substNilUptoRow.laid) (((Rows.OpenSpec.upto Rows.substNilSpec).at F).post enc Tryz.prog Tryz.f8 false true false false):=by
 obtain⟨places,hx⟩:=reads os enc
 refine returnsInHanded_of_row (C:=Tryz.checked) (s:=Rows.OpenSpec.upto Rows.substNilSpec) own started k_f Tryz.func8
  (witness_row_at (enc:=enc) (C:=Tryz.checked) false (laidOn (World.holding Tryz.prog os ⟨#[],#[],[]⟩)) #[.int .i64 0,.int .i64 0,.agg #[.slice none 0 0,.bool false,.slice none 0 0]] rfl k_f k_f k_f
   (OpenSpec.preRow_of_cond 8 hx k_f (fun k hk=>by cases hk;kernel_rfl) k_f (laid_met os))) ?_
 intro W base args ds gs before hval hW _ hcond _ hL _ _
 exact contract H enc W base args ds gs before hval hW hL (hcond _ rfl)

theorem saidUpto :Rows.SubstNilUptoSaid:=
 OpenClaim.holds_of_cond 8 Tryz.f8 rfl rfl rfl rfl rfl rfl rfl ⟨rfl,rfl,rfl,rfl,rfl⟩ rfl rfl rfl rfl rfl k_f Tryz.func8 k_f
  (of_decide_eq_true (by kernel_rfl)) (by unfold Func.isWrapper;first|(rw[if_pos (by decide+kernel)];kernel_rfl)|(rw[if_neg (by decide+kernel)];exact⟨rfl,rfl⟩))
  (fun os started H enc _ F=>by rw[OpenClaim.pre_eq_preRow];exact liftedUpto os started H enc F)

theorem plain (f:FuncId)(fn:Func)(hf:Tryz.pinned.checked.prog.funcNamed Rows.substNilUptoRow.func=some f)(hfn:Tryz.pinned.checked.prog.funcs[f]? =some fn):
  false=Tryz.pinned.checked.prog.looks []∧∀(j:Nat) t,fn.params[j]? =some t→Tryz.pinned.checked.prog.wantsStandIn t=false:=by
 obtain rfl:f=8:=Option.some.inj ((show Tryz.prog.funcNamed Rows.substNilUptoRow.func=some 8 by kernel_rfl).symm.trans hf) |>.symm
 obtain rfl:fn=Tryz.f8:=(Option.some.inj (Tryz.func8.symm.trans hfn)).symm
 refine⟨by kernel_rfl,fun j t ht=> ?_⟩
 rw[Tryz.params8]at ht
 have hm:t∈(#[3,3,47]:Array Nat):=Array.mem_of_getElem? ht
 simp only[List.mem_toArray,List.mem_cons,List.not_mem_nil,or_false]at hm
 rcases hm with rfl|rfl|rfl
 ·exact(show Tryz.prog.wantsStandIn 3=false by kernel_rfl)
 ·exact(show Tryz.prog.wantsStandIn 3=false by kernel_rfl)
 exact(show Tryz.prog.wantsStandIn 47=false by kernel_rfl)

theorem cardUpto :Rows.SubstNilUptoCardSaid:=
 Claim7.holds_tied_plain_at .later [] _ _ _ _ saidUpto (fun _ h=>by cases h) k_f (fun _ h=>by cases h) substNilUpto_row_tie rfl ⟨rfl,rfl⟩ k_f rfl plain k_f
end Go.Proofs.YtllfelooahplhaaGreatDoor.substNilCard
namespace Go.Proofs.YtllfelooahplhaaGreatDoor
theorem substNil_upto_card :Rows.SubstNilUptoCardSaid:=substNilCard.cardUpto
end Go.Proofs.YtllfelooahplhaaGreatDoor
