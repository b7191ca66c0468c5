/-
 The law CensusDoes of layer 19 returns true for every list of wanted sets,every choice and every two numbers,as they may stand,where what it reads is of bulk at most 1048576: Count,List,Next,Last,Least and Finite answer what the document's answers do,of whatever set,and a list is its owner's.
-/
import Derived.Test.YtaafoppaepcaeaaGreatCd19
import Derived.Test.YtaafoppaepcaeaaGreatCd27
namespace Go.Proofs.YtaafoppaepcaeaaGreat.censusDoesCard
open Go.ChangeShapes Go.WideShapes Go.ChangeAt Go.RowKit Go.Proofs.YtaafoppaepcaeaaGreat.Fp Go.Proofs.YtaafoppaepcaeaaGreat.Pd

set_option maxRecDepth 100000 in
theorem contract (H:Type)(enc:TypeId × Value→H)(W:World)(base:Nat)(args:Array Value)(ds gs:List (DataW H))(before:List MemPlace)
  (hval: ∀(j:Nat) t v,Tryz.f4.params[j]? =some t→args[j]? =some v→Value.okWide Tryz.prog W .any base t v)
  (hW:DataW.Whole enc Tryz.prog Tryz.f4.params.toList Rows.censusDoesSpec.vars false W args.toList ds gs before)(hk:Rows.uptoSmall H (ds++gs)=true):
  Calls Tryz.prog 4 args W fun e W'=> ∃v,e= .returned v∧Rows.censusDoesSpec.post enc Tryz.prog Tryz.f4 false true false false W args v W':=by
 have hW':=hW
 obtain⟨p,q,hA0,hV,rfl,hfz,hnd⟩:=hW
 have hA:DataW.TrodAll enc Tryz.prog W 0 (fun _=>true) true Tryz.f4.params.toList args.toList ds p:=hA0
 rw[Tryz.params4]at hA hval
 obtain⟨v0,vs0,d0,ds0,p0,q0,hargs,rfl,rfl,h0,r0⟩:=trodAll_cons hA
 obtain⟨v1,vs1,d1,ds1,p1,q1,rfl,rfl,rfl,h1,r1⟩:=trodAll_cons r0
 obtain⟨rfl,rfl,rfl⟩:=trodAll_nil r1
 obtain rfl:args= #[v0,v1]:=by cases args;simp_all
 obtain⟨rfl,rfl⟩:=trodVars_none hV
 have hbulk:=bulk_bound hk
 simp only[Rows.uptoBulkAll,List.append_nil]at hbulk
 have k0:=h0
 have lt0: ∀x∈p0,x.block<W.heap.size:=by obtain⟨m,hm⟩:=k0;exact DataW.trod_lt m _ _ _ hm
 obtain⟨ad0,n0,cp0,L0,rfl,ml0,bn0⟩:=open_mk (hval 0 22 v0 rfl rfl) h0 o_m
 have k1:=h1
 have lt1: ∀x∈p1,x.block<W.heap.size:=by obtain⟨m,hm⟩:=k1;exact DataW.trod_lt m _ _ _ hm
 obtain⟨i1,za1,zb1,zc1,x1,y1,z1,rfl,wi1,zma1,bla1,zmb1,blb1,zmc1,blc1⟩:=open_look (hval 1 49 v1 rfl rfl) h1
 clear hA0
 refine(Cr.censusDoes_walk (zc:=zc1) ml0 bn0 wi1 zma1 o_m zmb1 o_m).mono fun e W' ⟨he,bel⟩=> ?_
 subst he
 exact⟨_,rfl,_,_,_,[],_,[],hW',trodAll_mk1 (shut_bool Tryz.underlying4 _),(trodAll_cons_mk (Below.trod laidOut k_f (of_decide_eq_true k_f) k0 bel lt0) (trodAll_cons_mk (Below.trod laidOut k_f (of_decide_eq_true k_f) k1 bel lt1) trodAll_mk0)),rfl,bel.frame _,fun h=>by cases h⟩

set_option maxRecDepth 100000 in
theorem lifted (os:Os)(started:os.Started)(H:Type)(enc:TypeId × Value→H)(F:Stop.Interp):
  ReturnsInHanded {} Tryz.checked os 4 .any ((Rows.OpenSpec.upto Rows.censusDoesSpec).pre6 enc Tryz.prog Tryz.f4 Rows.censusDoesUptoRow.domain false) (((Rows.OpenSpec.upto Rows.censusDoesSpec).at F).post enc Tryz.prog Tryz.f4 false true false false):=by
 refine returnsInHanded_of_cond (C:=Tryz.checked) (s:=Rows.OpenSpec.upto Rows.censusDoesSpec) (k:=Rows.uptoSmall) rfl own started k_f Tryz.func4
  (OpenSpec.witness (enc:=enc) (C:=Tryz.checked) (s:=Rows.OpenSpec.upto Rows.censusDoesSpec) (k:=Rows.uptoSmall) rfl false ⟨#[],#[.slice none 0 0,.agg #[.int .i64 0,.bool false,.slice none 0 0,.bool false,.slice none 0 0,.bool false,.slice none 0 0]],[]⟩ 8 k_f k_f k_f
   (x:=([.nil,.agg [.lit (.int .i64 0),.agg [.lit (.bool false),.nil],.agg [.lit (.bool false),.nil],.agg [.lit (.bool false),.nil]]],[],[])) k_f rfl k_f) ?_
 intro W base args ds gs before hval hW _ hk _
 exact contract H enc W base args ds gs before hval hW hk

theorem over :Rows.censusDoesUptoRow.holds Tryz.pinned (Rows.OpenSpec.upto Rows.censusDoesSpec):=
 OpenClaim.holds_of_cond 4 Tryz.f4 rfl rfl rfl rfl rfl rfl rfl ⟨rfl,rfl,rfl,rfl,rfl⟩ rfl rfl rfl rfl rfl k_f Tryz.func4 k_f
  (of_decide_eq_true (by kernel_rfl)) (by unfold Func.isWrapper;first|(rw[if_pos (by decide+kernel)];kernel_rfl)|(rw[if_neg (by decide+kernel)];exact⟨rfl,rfl⟩))
  (fun os started H enc _ F=>lifted os started H enc F)
end Go.Proofs.YtaafoppaepcaeaaGreat.censusDoesCard
namespace Go.Proofs.YtaafoppaepcaeaaGreat
theorem censusDoes_upto :Rows.CensusDoesUptoSaid:=censusDoesCard.over
end Go.Proofs.YtaafoppaepcaeaaGreat
