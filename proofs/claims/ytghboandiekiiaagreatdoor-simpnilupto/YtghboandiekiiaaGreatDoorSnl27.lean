/-
 Several texts in one: YP,YS.
-/
import Derived.Test.YtghboandiekiiaaGreatDoorSnl25
import Derived.Test.YtghboandiekiiaaGreatDoorSnl26
namespace Go.Proofs.YtghboandiekiiaaGreatDoor
open Go.RowKit Go.Sort Go.Shelf
open Tm

theorem TN.pn {w w' : World} {ad : Option Addr} {n : Nat} {s : Bool} {a : Option Addr} {l c : Nat} {rs : List Raw} {k : Int} {B : Nat} (h : TN w w' ad n s a l c rs k B) : Pn w' ad n (rs.map Raw.p) B:=by
 obtain ⟨w1,h1,h2,⟨h3,h4⟩,_⟩:=h
 refine ⟨by simpa using h3,?_⟩
 rcases h4 with ⟨_,h4⟩ | ⟨g,e,hg,hlt,h4⟩
 ·exact .inl h4
 refine .inr ⟨g,0,e,hlt,fun i hi => ?_⟩
 have hi' : i < rs.length:=by simpa using hi
 obtain ⟨⟨c0,c1,c2⟩,_,hz,hl,hv⟩:=h4 i hi'
 rw [List.getElem_map,Nat.zero_add]
 exact ⟨_,_,_,_,c0,c1,c2,hz.below h2,hl,hv⟩

theorem std_lays (ps : List (Int × Int)) : Std (nz (lays [] ps)):=std_nz (rise_lays ps (by simp [Rise]))
theorem csum_nzl (ps : List (Int × Int)) (v : Int) : csum (nz (lays [] ps)) v = csum ps v:=by rw [csum_nz,csum_lays]; simp [csum]
theorem lays_eq {ps qs : List (Int × Int)} (h : Std qs) (hc : ∀ v,csum qs v = csum ps v) : qs = nz (lays [] ps):=std_unique h (std_lays ps) fun v => (hc v).trans (csum_nzl ps v).symm
theorem Pn.tb {w w' : World} {p : Nat} {ad0 : Option Addr} {n0 cp0 : Nat} {s0 : Bool} {a0 : Option Addr} {l0 c0 : Nat} {ad : Option Addr} {n : Nat} {ps : List (Int × Int)} {B : Nat} (h : Pn w ad n ps B) (y : TB w p ad0 n0 cp0 s0 a0 l0 c0) (hg : w.grownBy w' (some p)) : Pn w' ad n ps B:=by
 refine ⟨h.1,?_⟩
 rcases h.2 with h2 | ⟨b,off,e,hb,h2⟩
 ·exact .inl h2
 by_cases h0 : ps.length = 0
 ·exact .inl (h.1.symm.trans h0)
 refine .inr ⟨b,off,e,Nat.lt_of_lt_of_le hb hg.size,fun i hi => ?_⟩
 obtain ⟨s,a,l,c,e0,e1,e2,hz,hl⟩:=h2 i hi
 have hne : b ≠ p:=by
  intro e
  subst e
  rw [cell_of_row w b _ _ _ (0,0) y] at e0
  match hk : off + i * 3,e0 with
  | 0,e0 => simp at e0
  | 1,e0 => simp at e0
  | 2,e0 => simp at e0
  | k + 3,e0 => simp at e0
 have eb : w'.heap[b]? = w.heap[b]?:=hg.block b hb (by simpa using hne)
 exact ⟨s,a,l,c,(World.cell?_of_block (a:=⟨b,off + i * 3,none⟩) eb).trans e0,(World.cell?_of_block (a:=⟨b,off + i * 3 + 1,none⟩) eb).trans e1,(World.cell?_of_block (a:=⟨b,off + i * 3 + 2,none⟩) eb).trans e2,hz.grownU hg (tb_noU y),hl⟩
end Go.Proofs.YtghboandiekiiaaGreatDoor
