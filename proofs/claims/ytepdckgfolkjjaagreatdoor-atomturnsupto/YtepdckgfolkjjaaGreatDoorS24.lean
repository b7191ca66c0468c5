/-
 Several texts in one: YZ,YZ2,YZ3.
-/
import Derived.Test.YtepdckgfolkjjaaGreatDoorS20
import Derived.Test.YtepdckgfolkjjaaGreatDoorS23
import Derived.Laws.AppendOwnNone
namespace Go.Proofs.YtepdckgfolkjjaaGreatDoor
open Go.RowKit Go.Sort Go.Shelf
open Tm

theorem lays_congr {ps qs : List (Int × Int)} (h : ∀ v,csum ps v = csum qs v) : nz (lays [] ps) = nz (lays [] qs):=lays_eq (std_lays ps) fun v => (csum_nzl ps v).trans (h v)
set_option maxRecDepth 100000 in
theorem append_parts {w0 w : World} {v : Value} {k : Nat} {rs : List Raw} {ad : Option Addr} {n cp : Nat} {ps : List (Int × Int)} {B : Nat} (hb : Below w0.heap.size w0 w) (hown : w.ownsRow w0.heap.size 59 3 v k (flat rs)) (hP : Pr w0 ad n ps B) (hk : k + n≤1073741824) (ty : TypeId) :
  ∃ v' w',(Builtin.append_ #[25,25] ty #[v,.slice ad n cp]).run Tryz.prog w = .ok v' w'∧Below w0.heap.size w0 w'∧∃ rs2,rs2.map Raw.p = ps∧(∀ x ∈ rs2,x.okm w0 B)∧w'.ownsRow w0.heap.size 59 3 v' (k + n) (flat (rs ++ rs2)):=by
 obtain ⟨i0,hi,hz0,hz1,hz2⟩:=info_parts infoP
 cases ad with
 | none =>
  have h0 : n = 0:=by
   rcases hP.2 with h | ⟨b,off,e,_⟩
   ·exact h
   ·cases e
  subst h0
  have hps : ps = []:=List.eq_nil_of_length_eq_zero hP.1
  subst hps
  refine ⟨v,w,?_,hb,[],rfl,fun x hx => (by cases hx),by simpa using hown⟩
  rcases hown.2 with ⟨rfl,rfl⟩ | ⟨g,cap,cur,rfl,_,_,hnc,_,_,_⟩
  ·simp [Builtin.append_,run_underlying Tryz.underlying25,sizeOf,typeInfo,hi,Builtin.lenOf,Builtin.firstCells]
  ·simp [Builtin.append_,run_underlying Tryz.underlying25,sizeOf,typeInfo,hi,Builtin.lenOf,Builtin.firstCells,storeCells,hnc]
 | some ad =>
  have hraw : ∃ rs2 : List Raw,rs2.map Raw.p = ps∧(∀ x ∈ rs2,x.okm w0 B)∧(flat rs2).length = n * 3∧∀ j u,(flat rs2)[j]? = some u→w.cell? (ad.add j) = some u:=by
   rcases hP.2 with h0 | ⟨b,off,e,hPL⟩
   ·have hvs : ps = []:=List.eq_nil_of_length_eq_zero (by rw [hP.1]; exact h0)
    subst hvs
    exact ⟨[],rfl,fun x hx => (by cases hx),by rw [h0]; rfl,fun j u hu => by simp [flat] at hu⟩
   ·cases e
    obtain ⟨rs2,h1,h2,h3⟩:=pl_raw hPL
    refine ⟨rs2,h1,h2,by rw [flat_length,← hP.1,← h1,List.length_map],fun j u hu => ?_⟩
    rw [Addr.add_lit]
    exact (hb.cell (p:=⟨b,off + j,none⟩) hPL.1).trans (h3 j u hu)
  obtain ⟨rs2,h1,h2,h3,h4⟩:=hraw
  obtain ⟨v',w',hr,hrow,hgr, -⟩:=run_append_own (P:=Tryz.prog) w w0.heap.size 25 ty 59 i0 _ 3 40 Tryz.underlying25 hi hz0 hz1 hz2 rfl (by decide) v k _ hown ad n cp (flat rs2) h3 h4 (fun u hu => by
   obtain ⟨x,_,hx⟩:=List.mem_flatMap.1 hu
   exact v3_one _ _ _ _ _ u hx) (by unfold maxLen; omega) (by omega) hb.size
  exact ⟨v',w',hr,hb.grown hgr hb.size (fun k e => (hown.lt k e).1),rs2,h1,h2,by rw [flat_append]; exact hrow⟩


theorem ck5 {w w' : World} {p bp f t : Nat} {ad : Option Addr} {n cp : Nat} {s : Bool} {a : Option Addr} {l c : Nat} {u1 u2 : Value} (x : TB w' p ad n cp s a l c) (g1 : w.cell? ⟨bp,f + t * 3 + 1,none⟩ = some u1) (g2 : w.cell? ⟨bp,f + t * 3 + 2,none⟩ = some u2) (hb : bp < w.heap.size) (k : Below w.heap.size w w') :
  w'.cell? ⟨p,0,none⟩ = some (.slice ad n cp)∧w'.cell? ⟨bp,f + t * 3 + 1,none⟩ = some u1∧w'.cell? ⟨bp,f + t * 3 + 2,none⟩ = some u2 :=
 ⟨x.c0,(k.cell (p:=⟨bp,f + t * 3 + 1,none⟩) hb).trans g1,(k.cell (p:=⟨bp,f + t * 3 + 2,none⟩) hb).trans g2⟩

theorem row_slice {w : World} {base : Nat} {e : TypeId} {size : Nat} {v : Value} {n : Nat} {xs : List Value} (h : w.ownsRow base e size v n xs) : ∃ ad cp,v = .slice ad n cp:=by
 rcases h.2 with ⟨rfl,rfl⟩ | ⟨g,cap,cur,rfl,_⟩
 ·exact ⟨_,_,rfl⟩
 ·exact ⟨_,_,rfl⟩
theorem append_one {w0 w : World} {v : Value} {k : Nat} {rs : List Raw} (hb : Below w0.heap.size w0 w) (hown : w.ownsRow w0.heap.size 59 3 v k (flat rs)) (x : Raw) (ad : Addr) (ha : ∀ j u,(x.enc)[j]? = some u→w.cell? (ad.add j) = some u) (hk : k + 1≤1073741824) (ty : TypeId) :
  ∃ v' w',(Builtin.append_ #[25,25] ty #[v,.slice (some ad) 1 1]).run Tryz.prog w = .ok v' w'∧Below w0.heap.size w0 w'∧w'.ownsRow w0.heap.size 59 3 v' (k + 1) (flat (rs ++ [x])):=by
 obtain ⟨i0,hi,hz0,hz1,hz2⟩:=info_parts infoP
 obtain ⟨v',w',hr,hrow,hgr, -⟩:=run_append_own (P:=Tryz.prog) w w0.heap.size 25 ty 59 i0 _ 3 40 Tryz.underlying25 hi hz0 hz1 hz2 rfl (by decide) v k _ hown ad 1 1 x.enc rfl ha (v3_one _ _ _ _ _) (by unfold maxLen; omega) (by omega) hb.size
 exact ⟨v',w',hr,hb.grown hgr hb.size (fun k e => (hown.lt k e).1),by rw [flat_append,show flat [x] = x.enc by simp [flat]]; exact hrow⟩
theorem wo_snoc (v : Int) (ps : List (Int × Int)) (p : Int × Int) : wo v (ps ++ [p]) = if p.1 = v then wo v ps else wo v ps ++ [p]:=by
 unfold wo
 rw [List.filter_append]
 by_cases h : p.1 = v <;> simp [h]

end Go.Proofs.YtepdckgfolkjjaaGreatDoor

namespace Go.Proofs.YtepdckgfolkjjaaGreatDoor
open Go.RowKit Go.Sort Go.Shelf
open Tm At

end Go.Proofs.YtepdckgfolkjjaaGreatDoor
