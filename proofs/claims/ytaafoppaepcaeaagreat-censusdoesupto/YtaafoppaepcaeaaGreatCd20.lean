/-
 A range over a function,for whatever iterator: the way in,a round,the way out.
-/
import Derived.RangeFuncNested
import Derived.RangeFuncBound
import Derived.RangeFuncCalls
import Derived.RangeFuncLeaves
import Derived.Shelf.Abstract
import Derived.Shelf.RegionOpen
import Derived.WalkKit
import Derived.OwnWalkIn
import Derived.TacticsInMore
import Derived.LoopNIn
import Derived.LoopIn
import Derived.Test.YtaafoppaepcaeaaGreatCd06
namespace Go.Proofs.YtaafoppaepcaeaaGreat
open Go.RowKit Go.Shelf

def lrec (fn:FuncId)(tmps:Array Value)(ps:Array Tmp)(assign body:Code)(D:Nat)(st:LoopState)(pe:Option Code):Loop:=
 {state:=st,pending:=pe,fn:=fn,tmps:=tmps,params:=ps,assign:=assign,body:=body,defers:=D}

theorem range_enter {P:Program}{n:Nat}{g:Operand}{ps:Array Tmp}{assign body:Code}{Q:Exit→Act→World→Prop}{a:Act}{w:World}{gf:Nat}{lb:Array Value}
  (hg:a.eval g= .func (.func gf) #[] lb)(eg: ∀args w,(callFunc gf args).run P w= .ok (.enter gf args) w)
  (h: ∀fn r,lrec fn a.tmps ps assign body w.heap.size .ready none=r→CallsIn Fence.wide (n-1) P gf (#[.func (.yield (w.heap.size+1)) #[] #[]]++lb) ((w.alloc (.deferred (some []))).alloc (.loop r)) fun e W=>
   (∃v,e= .returned v)∧((W.heap[w.heap.size+1]? =some (.loop r)∧
     Q .normal {a with defers:={target:=.collected w.heap.size,args:=#[]}::a.defers} (W.putObj (w.heap.size+1) (.loop {r with state:=.exhausted})))∨
    ∃c,W.heap[w.heap.size+1]? =some (.loop {r with state:=.done,pending:=some c})∧
     c.wpIn Fence.wide n P Q {a with defers:={target:=.collected w.heap.size,args:=#[]}::a.defers} (W.putObj (w.heap.size+1) (.loop {r with state:=.exhausted,pending:=some c})))):
  (Code.rangeFunc g ps assign body).wpIn Fence.wide n P Q a w:=by
 refine wpIn_rangeFunc fun fn _=> ?_
 let W1:=(w.alloc (.deferred (some []))).alloc (.loop (lrec fn a.tmps ps assign body w.heap.size .ready none))
 refine⟨w.heap.size+1,[{target:=.collected w.heap.size,args:=#[]}],W1,{target:=.fn (.func gf) lb,args:=#[.func (.yield (w.heap.size+1)) #[] #[]]},W1,gf,#[.func (.yield (w.heap.size+1)) #[] #[]]++lb,W1,
  run_enterLoop_outer fn a.tmps ps assign body,?_,fun _ _=>trivial,?_,fun hd=>absurd hd Bool.false_ne_true,?_⟩
 ·simp only[resolve,hg]
  simp[go_sem]
 ·simp[invoke,go_sem,eg]
 refine(h fn _ rfl).mono ?_
 rintro e W ⟨⟨v,rfl⟩,⟨hl,hq⟩|⟨c,hl,hq⟩⟩
 ·exact⟨none,_,run_endLoop hl (by simp[lrec]),hq⟩
 exact⟨some c,_,run_endLoop hl (by simp),hq⟩

def roundLeft (l:Nat)(r:Loop)(R:Ending→World→Prop):Exit→Act→World→Prop
 | .normal,_,W=>W.heap[l]? =some (.loop {r with state:=.busy})∧R (.returned (.bool true)) (W.putObj l (.loop {r with state:=.ready,pending:=none}))
 | .ret,_,W=>W.heap[l]? =some (.loop {r with state:=.busy})∧R (.returned (.bool false)) (W.putObj l (.loop {r with state:=.done,pending:=some .ret}))
 | .exit id,_,W=>W.heap[l]? =some (.loop {r with state:=.busy})∧R (.returned (.bool false)) (W.putObj l (.loop {r with state:=.done,pending:=some (.exit id)}))
 | .goto t,_,W=>W.heap[l]? =some (.loop {r with state:=.busy})∧R (.returned (.bool false)) (W.putObj l (.loop {r with state:=.done,pending:=some (.goto t)}))
 | .panic _,_,_=>False
 | .outgrown,_,_=>False

theorem yield_round {P:Program}{n l:Nat}{W:World}{r:Loop}{args:Array Value}{R:Ending→World→Prop}(h:W.heap[l]? =some (.loop r))(hr:r.state= .ready)(hs:args.size=r.params.size)
  (hw:r.assign.wpIn (Fence.wide.inRound l) n P (Exit.then (fun a1 W1=>W1.heap[l]? =some (.loop r)∧r.body.wpIn (Fence.wide.inRound l) n P (roundLeft l r R) a1 (W1.putObj l (.loop {r with state:=.busy}))) (fun _ _ _=>False))
   {tmps:=(r.params.zip args).foldl (fun t (p,v)=>t.setIfInBounds p v) r.tmps,defers:=[]} W):
  YieldAt Fence.wide n P l args W R:=by
 refine⟨_,_,_,_,run_yield h hs,roundIn_of_wpIn trivial (wpIn_mono hw ?_)⟩
 intro ex a1 W1 hq
 cases ex with
 |normal=>
  obtain⟨h1,h2⟩:=hq
  refine⟨_,run_beginRound h1 hr,wpIn_mono h2 ?_⟩
  intro ex a2 W2 hq2
  cases ex with
  |normal=>exact⟨_,_,run_endRound none hq2.1,hq2.2⟩
  |ret=>exact⟨_,_,run_endRound (some .ret) hq2.1,hq2.2⟩
  |exit id=>exact⟨_,_,run_endRound (some (.exit id)) hq2.1,hq2.2⟩
  |goto t=>exact⟨_,_,run_endRound (some (.goto t)) hq2.1,hq2.2⟩
  |panic c=>exact hq2.elim
  |outgrown=>exact hq2.elim
 |ret=>exact hq.elim
 |exit id=>exact hq.elim
 |goto t=>exact hq.elim
 |panic c=>exact hq.elim
 |outgrown=>exact hq.elim

theorem round_at {P:Program}{n l D:Nat}{W:World}{fn:FuncId}{tmps:Array Value}{ps:Array Tmp}{assign body:Code}{r:Loop}{args:Array Value}{R:Ending→World→Prop}
  (hr:lrec fn tmps ps assign body D .ready none=r)(h:W.heap[l]? =some (.loop r))(hs:args.size=ps.size)
  (hw:assign.wpIn (Fence.wide.inRound l) n P (Exit.then (fun a1 W1=>W1.heap[l]? =some (.loop r)∧body.wpIn (Fence.wide.inRound l) n P (roundLeft l r R) a1 (W1.putObj l (.loop {r with state:=.busy}))) (fun _ _ _=>False))
   {tmps:=(ps.zip args).foldl (fun t (p,v)=>t.setIfInBounds p v) tmps,defers:=[]} W):
  YieldAt Fence.wide n P l args W R:=by
 subst hr
 exact yield_round h rfl hs hw
theorem lrec_again {fn:FuncId}{tmps:Array Value}{ps:Array Tmp}{assign body:Code}{D:Nat}{r:Loop}(hr:lrec fn tmps ps assign body D .ready none=r):({r with state:=.ready,pending:=none}:Loop)=r:=by
 subst hr;rfl
end Go.Proofs.YtaafoppaepcaeaaGreat
