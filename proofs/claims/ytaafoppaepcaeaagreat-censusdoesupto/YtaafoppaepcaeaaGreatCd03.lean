/-
 A region that draws its order,within a fence that bars no function,in a round of a range over a function too: an operation that yields its value in every world of a kind,and leaves the world as it is,may come up first.
-/
import Derived.OrdersIn
import Derived.OrdersHeld
import Derived.OwnWalkIn
import Derived.Deep.RegionHeld3
import Derived.Test.YtaafoppaepcaeaaGreatCd00
namespace Go.Proofs.YtaafoppaepcaeaaGreat
open Go
namespace Pd

section
variable {F:Fence}{n:Nat}{P:Program}{ops:Array Oper}{Q:Exit→Act→World→Prop}{md:Region.Mode}{S:World→Prop}{K K':Act→World→Prop}

def calm (ops:Array Oper):Bool:=ops.all fun o=>match o.op with
 | .defer _=>false
 |_=>true
theorem calm_at (h:calm ops=true){j:Nat}{o:Oper}(ho:ops[j]? =some o): ∀c,o.op≠ .defer c:=by
 intro c
 intro e
 obtain⟨hj,rfl⟩:=Array.getElem?_eq_some_iff.1 ho
 have:=Array.all_eq_true.1 h j hj
 rw[e]at this
 cases this
def stp (F:Fence)(n:Nat)(P:Program)(ops:Array Oper)(Q:Exit→Act→World→Prop)(i:Nat)(K:Act→World→Prop)(a:Act)(w:World):Prop:=
 ∀o,ops[i]? =some o→if Region.wanted o (yielded ops a.tmps)=true then o.uponIn F n P a K Q ((execOp a.eval o).run P w)else K (a.put o.dst undef) w
theorem upon_mono {o:Oper}{a:Act}(h: ∀a w,K a w→K' a w)(r:Result Next)(hh:o.uponIn F n P a K Q r):o.uponIn F n P a K' Q r:=by
 cases r with
 |ok x w'=>
  cases x <;> simp only[Oper.uponIn]at hh ⊢ <;>
   first
    |exact h _ _ hh
    |exact⟨hh.1,CallsIn.mono hh.2 (fun e w2 he=>by cases e <;> first|exact h _ _ he|exact he)⟩
    |exact⟨hh.1,RowsIn.mono hh.2 (fun _ _ he=>h _ _ he)⟩
    |exact⟨hh.1,RoundIn.mono hh.2 (fun e w2 he=>by cases e <;> first|exact h _ _ he|exact he)⟩
 |halt x w'=>cases x <;> simp only[Oper.uponIn]at hh ⊢ <;> exact hh
theorem stp_mono {i:Nat}{a:Act}{w:World}(h: ∀a w,K a w→K' a w)(hh:stp F n P ops Q i K a w):stp F n P ops Q i K' a w:=fun o ho=>by
 have:=hh o ho
 split
 ·rename_i hw
  rw[if_pos hw]at this
  exact upon_mono h _ this
 rename_i hw
 rw[if_neg hw]at this
 exact h _ _ this
theorem stp_in (hfn: ∀f,F.fn f)(hc:calm ops=true){i:Nat}{o:Oper}(ho:ops[i]? =some o){a:Act}{w:World}(hh:stp F n P ops Q i K a w):wpOpIn F n P ops Q i K a w:=by
 have:=hh o ho
 unfold wpOpIn
 rw[ho]
 dsimp only
 split
 ·rename_i hw
  rw[if_pos hw]at this
  refine⟨fun f _=>hfn f,?_⟩
  rw[Oper.semAt_plain F _ _ (calm_at hc ho)]
  exact this
 rename_i hw
 rw[if_neg hw]at this
 exact⟨fun f _=>hfn f,this⟩
theorem stp_of (hc:calm ops=true){i:Nat}{o:Oper}(ho:ops[i]? =some o){a:Act}{w:World}(h:if Region.wanted o (yielded ops a.tmps)=true then o.wpIn F n P a w K Q else K (a.put o.dst undef) w):stp F n P ops Q i K a w:=fun o2 ho2=>by
 obtain rfl:o=o2:=Option.some.inj (ho.symm.trans ho2)
 split
 ·rename_i hw
  rw[if_pos hw]at h
  have:=h.2
  rwa [Oper.semAt_plain F _ _ (calm_at hc ho)]at this
 rename_i hw
 rw[if_neg hw]at h
 exact h
theorem yields_stp {i:Nat}{o:Oper}{v:Value}{a:Act}(hi:ops[i]? =some o)(hy:YieldsIf P ops S o v a){w:World}(hS:S w)(h:K (a.put o.dst v) w):stp F n P ops Q i K a w:=fun o2 ho2=>by
 obtain rfl:o=o2:=Option.some.inj (hi.symm.trans ho2)
 rcases hy with⟨hw,hv⟩|⟨hw,rfl⟩
 ·rw[if_pos hw,hv w hS]
  exact h
 rw[if_neg (by rw[hw];exact Bool.false_ne_true)]
 exact h
theorem stp_put {j:Nat}{oi oj:Oper}{v:Value}(hj:ops[j]? =some oj)(hap:oi.apart ops oj=true)(hsi: ∀cs b,oi.op≠ .select cs b)(hsj: ∀cs b,oj.op≠ .select cs b)
  (hQ: ∀c a w,Q (.panic c) (a.put oi.dst v) w→Q (.panic c) a w){a:Act}{w:World}(hy:YieldsIf P ops S oi v a)(h:stp F n P ops Q j K (a.put oi.dst v) w):
  stp F n P ops Q j (fun a' w'=>YieldsIf P ops S oi v a'∧K (a'.put oi.dst v) w') a w:=fun o2 ho2=>by
 obtain rfl:oj=o2:=Option.some.inj (hj.symm.trans ho2)
 obtain⟨h1,h2,h3⟩:=Oper.apart_spec hap
 have keep: ∀(a:Act),YieldsIf P ops S oi v a→∀u,YieldsIf P ops S oi v (a.put oj.dst u):=fun a hy u=>hy.of_same (execOp_put oi hsi a oj.dst u h3) (wanted_put oi a oj.dst u h3)
 have keepD: ∀d,YieldsIf P ops S oi v {a with defers:=d::a.defers}:=fun d=>hy.of_same rfl rfl
 have h0:=h oj hj
 rw[wanted_put oj a oi.dst v h1,execOp_put oj hsj a oi.dst v h1]at h0
 split
 ·rename_i hw
  rw[if_pos hw]at h0
  generalize (execOp a.eval oj).run P w=r at*
  cases r with
  |ok x w'=>
   cases x <;> simp only[Oper.uponIn]at h0 ⊢
   case value u=>exact⟨keep a hy u,by rw[←Act.put_comm a v u h2];exact h0⟩
   case skip=>exact⟨keep a hy _,by rw[←Act.put_comm a v undef h2];exact h0⟩
   case defer d=>
    refine⟨keep _ (keepD d) _,?_⟩
    rw[←Act.put_comm _ v undef h2,←Act.put_defers]
    exact h0
   case enter f args=>
    refine⟨h0.1,CallsIn.mono h0.2 fun e w2 he=> ?_⟩
    cases e with
    |returned u=>exact⟨keep a hy u,by rw[←Act.put_comm a v u h2];exact he⟩
    |panicked c=>exact hQ _ _ _ he
    |outgrown=>exact he
   case row row args=>exact⟨h0.1,RowsIn.mono h0.2 fun u w2 he=>⟨keep a hy u,by rw[←Act.put_comm a v u h2];exact he⟩⟩
   case round l f tmps assign body=>
    refine⟨h0.1,RoundIn.mono h0.2 fun e w2 he=> ?_⟩
    cases e with
    |returned u=>exact⟨keep a hy u,by rw[←Act.put_comm a v u h2];exact he⟩
    |panicked c=>exact hQ _ _ _ he
    |outgrown=>exact he
  |halt x w'=>
   cases x <;> simp only[Oper.uponIn]at h0 ⊢
   case panic u=>exact hQ _ _ _ h0
 rename_i hw
 rw[if_neg hw]at h0
 exact⟨keep a hy _,by rw[←Act.put_comm a v undef h2];exact h0⟩
def anyG (F:Fence)(n:Nat)(P:Program)(md:Region.Mode)(ops:Array Oper)(Q:Exit→Act→World→Prop)(S:World→Prop):Nat→Array Bool→Act→World→Prop
 |0,done,a,w=>Region.ready md ops done= []∧Q .normal a w
 |k+1,done,a,w=>(Region.ready md ops done= []→Q .normal a w)∧∀i∈Region.ready md ops done,stp F n P ops Q i (fun a' w'=>S w'∧anyG F n P md ops Q S k (done.setIfInBounds i true) a' w') a w
theorem anyG_in (hfn: ∀f,F.fn f)(hc:calm ops=true): ∀(k:Nat) (done:Array Bool) (a:Act) (w:World),anyG F n P md ops Q S k done a w→wpAnyIn F n P md ops Q k done a w
 |0,_,_,_,h=>h
 |k+1,_,_,_,h=>⟨h.1,fun i hi=>by
  obtain⟨_,oi,hoi,_⟩:=mem_ready.1 hi
  exact stp_in hfn hc hoi (stp_mono (fun a' w' h'=>anyG_in hfn hc k _ a' w' h'.2) (h.2 i hi))⟩
theorem anyG_first {i:Nat}{oi:Oper}{v:Value}(hi:ops[i]? =some oi)(hsel: ∀(j:Nat) (o:Oper) cs b,ops[j]? =some o→o.op≠ .select cs b)(hQ: ∀c a w,Q (.panic c) (a.put oi.dst v) w→Q (.panic c) a w):
  ∀(k:Nat) (done:Array Bool) (a:Act) (w:World),(∀j oj,ops[j]? =some oj→j≠i→done.getD j true=false→(∀e∈oj.after,Region.binds md e=true→e.on≠i)→oi.apart ops oj=true)→
   i∈Region.ready md ops done→YieldsIf P ops S oi v a→S w→anyG F n P md ops Q S k (done.setIfInBounds i true) (a.put oi.dst v) w→anyG F n P md ops Q S (k+1) done a w:=by
 intro k
 induction k with
 |zero=>
  intro done a w _ hr hy hS H
  refine⟨fun h=>(by rw[h]at hr;cases hr),fun j hj=> ?_⟩
  by_cases hji:j=i
  ·subst hji
   exact yields_stp hi hy hS ⟨hS,H⟩
  have h2:=ready_mono hj hji
  rw[H.1]at h2
  cases h2
 |succ k ih=>
  intro done a w hfree hr hy hS H
  refine⟨fun h=>(by rw[h]at hr;cases hr),fun j hj=> ?_⟩
  by_cases hji:j=i
  ·subst hji
   exact yields_stp hi hy hS ⟨hS,H⟩
  obtain⟨hjun,oj,hoj,hall⟩:=mem_ready.1 hj
  have hnot: ∀e∈oj.after,Region.binds md e=true→e.on≠i:=fun e he hb heq=>by
   have h1:=hall e he hb
   have h0:=(mem_ready.1 hr).1
   rw[heq]at h1
   rcases Nat.lt_or_ge i done.size with h'|h'
   ·simp[h']at h0 h1
    rw[h0]at h1
    cases h1
   simp[Array.getElem?_eq_none h']at h1
  have h2:=stp_put hoj (hfree j oj hoj hji hjun hnot) (fun cs b=>hsel i oi cs b hi) (fun cs b=>hsel j oj cs b hoj) hQ hy (H.2 j (ready_mono hj hji))
  have hfree2: ∀m om,ops[m]? =some om→m≠i→(done.setIfInBounds j true).getD m true=false→(∀e∈om.after,Region.binds md e=true→e.on≠i)→oi.apart ops om=true:=fun m om hom hmi hun hno=>by
   refine hfree m om hom hmi ?_ hno
   by_cases hjm:j=m
   ·subst hjm
    exact hjun
   rw[getD_set_ne true hjm]at hun
   exact hun
  refine stp_mono (fun a' w' h3=>⟨h3.2.1,ih (done.setIfInBounds j true) a' w' hfree2 (ready_mono hr (Ne.symm hji)) h3.1 h3.2.1 ?_⟩) h2
  rw[Array.setIfInBounds_comm _ _ hji]
  exact h3.2.2
theorem anyG_take {i:Nat}{oi:Oper}{v:Value}{k:Nat}{done:Array Bool}{a:Act}{w:World}(hi:ops[i]? =some oi)(hs:Region.noSelect ops=true)(hf:Region.free md ops done i=true)(hr:(Region.ready md ops done).contains i=true)
  (hQ: ∀c a w,Q (.panic c) (a.put oi.dst v) w→Q (.panic c) a w)(hy:YieldsIf P ops S oi v a)(hS:S w)(h:anyG F n P md ops Q S k (done.setIfInBounds i true) (a.put oi.dst v) w):anyG F n P md ops Q S (k+1) done a w:=
 anyG_first hi (Region.noSelect_spec hs) hQ k done a w (Region.free_spec hi hf) (by simpa using hr) hy hS h
theorem anyG_done {done:Array Bool}{a:Act}{w:World}(hr:Region.ready md ops done= [])(h:Q .normal a w): ∀k,anyG F n P md ops Q S k done a w
 |0=>⟨hr,h⟩
 |_+1=>⟨fun _=>h,by rw[hr];simp⟩
def ReadyG (F:Fence)(n:Nat)(P:Program)(md:Region.Mode)(ops:Array Oper)(Q:Exit→Act→World→Prop)(S:World→Prop)(k:Nat)(done:Array Bool)(a:Act)(w:World)(rs:List Nat):Prop:=
 ∀i∈rs,stp F n P ops Q i (fun a' w'=>S w'∧anyG F n P md ops Q S k (done.setIfInBounds i true) a' w') a w
theorem ReadyG.nil {k:Nat}{done:Array Bool}{a:Act}{w:World}:ReadyG F n P md ops Q S k done a w []:=fun _ h=>by cases h
theorem ReadyG.cons {k:Nat}{done:Array Bool}{a:Act}{w:World}{i:Nat}{o:Oper}{rs:List Nat}(hc:calm ops=true)(ho:ops[i]? =some o)
  (h: ∀K':Act→World→Prop,Shut (∀a w,S w→(S w→anyG F n P md ops Q S k (done.setIfInBounds i true) a w)→K' a w)→if Region.wanted o (yielded ops a.tmps)=true then o.wpIn F n P a w K' Q else K' (a.put o.dst undef) w)
  (hs:ReadyG F n P md ops Q S k done a w rs):ReadyG F n P md ops Q S k done a w (i::rs):=fun j hj=>by
 rcases List.mem_cons.1 hj with rfl|hj
 ·exact stp_of hc ho (h _ (fun a w hS hW=>⟨hS,hW hS⟩))
 exact hs j hj
theorem anyG_ready {rs:List Nat}{k:Nat}{done:Array Bool}{a:Act}{w:World}(hr:Region.ready md ops done=rs)(hne:rs≠ [])(h:ReadyG F n P md ops Q S k done a w rs):anyG F n P md ops Q S (k+1) done a w:=
 ⟨fun h0=>absurd (hr▸h0) hne,hr▸h⟩
theorem region_G {id:Nat}{a:Act}{w:World}(hm:P.follows .mixedOrders=true)(hfn: ∀f,F.fn f)(hc:calm ops=true)(hS:S w.drew)
  (h:S w.drew→anyG F n P .any ops Q S ops.size (Array.replicate ops.size false) a w.drew):(Code.region id ops true).wpIn F n P Q a w:=
 wpIn_region_any hm (anyG_in hfn hc _ _ _ _ (h hS))
end
end Pd
end Go.Proofs.YtaafoppaepcaeaaGreat
