/-
 Drawn regions: a read that is taken first; the one operation that is ready.
-/
import Derived.Test.YtaafoppaepcaeaaGreatCd06
import Derived.Deep.RegionHeld3
namespace Go.Proofs.YtaafoppaepcaeaaGreat
open Go.RowKit
theorem tkz {P:Program}{md:Region.Mode}{ops:Array Oper}{Q:Exit→Act→World→Prop}{S:World→Prop}{fuel:Nat}{listed:Array Bool}{a:Act}{w:World}{op:Op}{ty:TypeId}{ps:String}{af:Array Edge}{gd:Option (Nat × Bool)}{v:Value}(i d:Nat)(h:wpAnyH P md ops Q S fuel (listed.setIfInBounds i true) (a.put (some d) v) w)
    (hi:ops[i]? =some ⟨some d,op,ty,ps,af,gd⟩:=by rfl)(hs:Region.noSelect ops=true:=by decide+kernel)(hf:Region.free md ops listed i=true:=by decide+kernel)(hr:(Region.ready md ops listed).contains i=true:=by decide+kernel)(hw:Region.wanted ⟨some d,op,ty,ps,af,gd⟩ (yielded ops a.tmps)=true:=by rfl)
    (hy: ∀w,S w→(execOp a.eval ⟨some d,op,ty,ps,af,gd⟩).run P w= .ok (.value v) w:=by intro wq hSw;(try dsimp only at hSw);go_simp;(try with_reducible rfl))(hQ: ∀c a w,Q (.panic c) (a.put (some d) v) w→Q (.panic c) a w:=by intro _ _ _ h;exact h)(hS:S w:=by assumption):wpAnyH P md ops Q S (fuel+1) listed a w:=
  wpAnyH_take (oi:=⟨some d,op,ty,ps,af,gd⟩) hi hs hf hr hQ (Or.inl ⟨hw,hy⟩) hS h
theorem ryz {P:Program}{md:Region.Mode}{ops:Array Oper}{Q:Exit→Act→World→Prop}{S:World→Prop}{fuel:Nat}{listed:Array Bool}{a:Act}{w:World}{op:Op}{ty:TypeId}{ps:String}{af:Array Edge}{gd:Option (Nat × Bool)}(i:Nat)(d:Option Nat)
    (h: ∀K':Act→World→Prop,Shut (∀a w,S w→(S w→wpAnyH P md ops Q S fuel (listed.setIfInBounds i true) a w)→K' a w)→if Region.wanted ⟨d,op,ty,ps,af,gd⟩ (yielded ops a.tmps)=true then Oper.wp P ⟨d,op,ty,ps,af,gd⟩ a w K' Q else K' (a.put d undef) w)
    (hs:AllReadyH P md ops Q S fuel listed a w [])(ho:ops[i]? =some ⟨d,op,ty,ps,af,gd⟩:=by rfl)(hr:Region.ready md ops listed= [i]:=by decide+kernel):wpAnyH P md ops Q S (fuel+1) listed a w:=
  wpAnyH_ready hr (by simp) (AllReadyH.cons ho h hs)
end Go.Proofs.YtaafoppaepcaeaaGreat
