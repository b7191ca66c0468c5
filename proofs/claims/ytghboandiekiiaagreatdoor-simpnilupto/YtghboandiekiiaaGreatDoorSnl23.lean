/-
 Several texts in one: YJ,YK,YL,YM.
-/
import Derived.Test.YtghboandiekiiaaGreatDoorSnl22
import Derived.Laws.CopyRow
import Derived.Test.YtghboandiekiiaaGreatDoorSnl14
namespace Go.Proofs.YtghboandiekiiaaGreatDoor
open Go.RowKit Go.Sort Go.Shelf
open Tm

variable {w w' : World} {g base n cap B : Nat} {L : List Raw} {v : Value} {qs ps : List (Int × Int)} {ad : Option Addr}
def zr : Raw:=⟨0,false,none,0,0,0⟩
def RB (w : World) (g : Nat) (L : List Raw) : Prop:=w.heap[g]? = some (.cells (flat L).toArray 87 (0,0))
theorem RB.lt (h : RB w g L) : g < w.heap.size:=(Array.getElem?_eq_some_iff.1 h).1
theorem RB.below (h : RB w g L) (hb : Below w.heap.size w w') : RB w' g L:=(hb.block g h.lt).trans h
theorem RB.grown {m : Nat} (h : RB w g L) (hg : w.grownBy w' (some m)) (hm : g ≠ m) : RB w' g L:=(hg.block g h.lt (by simpa using hm)).trans h
theorem RB.cell (h : RB w g L) {i c : Nat} (hi : i < L.length) (hc : c < 3) : w.cell? ⟨g,i * 3 + c,none⟩ = (L[i]).enc[c]?:=by
 rw [cell_of_row w g (i * 3 + c) _ _ (0,0) h,← flat_get L i c hi hc]
 simp
theorem RB.c0 (h : RB w g L) {i : Nat} (hi : i < L.length) : w.cell? ⟨g,i * 3,none⟩ = some (.int .i64 (L[i]).v):=by simpa [Raw.enc] using h.cell hi (c:=0) (by decide)
theorem RB.c1 (h : RB w g L) {i : Nat} (hi : i < L.length) : w.cell? ⟨g,i * 3 + 1,none⟩ = some (.bool (L[i]).s):=by simpa [Raw.enc] using h.cell hi (c:=1) (by decide)
theorem RB.c2 (h : RB w g L) {i : Nat} (hi : i < L.length) : w.cell? ⟨g,i * 3 + 2,none⟩ = some (.slice (L[i]).a (L[i]).l (L[i]).c):=by simpa [Raw.enc] using h.cell hi (c:=2) (by decide)
theorem RB.noU (h : RB w g L) : NoU w g:=by
 intro off x hx
 rw [cell_of_row w g off _ _ (0,0) h] at hx
 have hm : (Value.int .u32 x) ∈ flat L:=by
  have : (flat L)[off]? = some (.int .u32 x):=by simpa using hx
  exact List.mem_of_getElem? this
 obtain ⟨r,_,hr⟩:=List.mem_flatMap.1 hm
 simp [Raw.enc] at hr
theorem flat_append (xs ys : List Raw) : flat (xs ++ ys) = flat xs ++ flat ys:=by simp [flat]
theorem flat_take (L : List Raw) : ∀ k,(flat L).take (k * 3) = flat (L.take k):=by
 induction L with
 | nil => intro k; simp [flat]
 | cons x L ih =>
  intro k
  cases k with
  | zero => simp [flat]
  | succ k =>
   have e : flat (x :: L) = x.enc ++ flat L:=by simp [flat]
   rw [e,List.take_succ_cons,show flat (x :: L.take k) = x.enc ++ flat (L.take k) by simp [flat],← ih k]
   have hl : x.enc.length = 3:=rfl
   rw [List.take_append,List.take_of_length_le o_m,hl,show (k + 1) * 3 - 3 = k * 3 by omega]
theorem flat_drop (L : List Raw) : ∀ k,(flat L).drop (k * 3) = flat (L.drop k):=by
 induction L with
 | nil => intro k; simp [flat]
 | cons x L ih =>
  intro k
  cases k with
  | zero => simp [flat]
  | succ k =>
   have e : flat (x :: L) = x.enc ++ flat L:=by simp [flat]
   rw [e,List.drop_succ_cons,← ih k]
   have hl : x.enc.length = 3:=rfl
   rw [List.drop_append,List.drop_eq_nil_of_le o_m,hl,show (k + 1) * 3 - 3 = k * 3 by omega,List.nil_append]
theorem flat_one (u : Value) (L : List Raw) (h : u ∈ flat L) : u.oneCell' = true:=by
 obtain ⟨r,_,hr⟩:=List.mem_flatMap.1 h
 exact v3_one _ _ _ _ _ u hr
theorem zero_get3 (z : Array Value) (k j : Nat) (h : j < k * z.size) : (Builtin.zeroCells z k)[j]? = some z[j % z.size]!:=by
 simp [Builtin.zeroCells,h]
theorem zeroP (k : Nat) : Builtin.zeroCells (Value.agg #[.int .i64 0,.bool false,.slice none 0 0]).cells k = (flat (List.replicate k zr)).toArray:=by
 apply Array.ext'
 apply List.ext_getElem?
 intro j
 by_cases hj : j < k * 3
 ·have h1 : (flat (List.replicate k zr))[j]? = (zr.enc)[j % 3]?:=by
   have:=flat_get (List.replicate k zr) (j / 3) (j % 3) (by simp; omega) (Nat.mod_lt _ (by decide))
   rw [show j / 3 * 3 + j % 3 = j from by omega] at this
   rw [this]
   simp
  rw [List.toList_toArray,h1,Array.getElem?_toList,zero_get3]
  ·have hm : j % 3 = 0 ∨ j % 3 = 1 ∨ j % 3 = 2:=by omega
   rcases hm with e | e | e <;> simp [Value.cells,e,zr,Raw.enc]
  simpa [Value.cells] using hj
 rw [List.getElem?_eq_none (by simp [Builtin.zeroCells,Value.cells]; omega),List.getElem?_eq_none (by rw [List.toList_toArray,flat_length]; simp; omega)]

def RS (base : Nat) (w : World) (v : Value) (n cap : Nat) (L : List Raw) : Prop :=
 (v = .slice none 0 0∧n = 0∧cap = 0∧L = []) ∨ ∃ g,v = .slice (some ⟨g,0,none⟩) n cap∧base≤g∧RB w g L∧L.length = cap∧n≤cap∧cap≤maxLen

theorem RS.row (h : RS base w v n cap L) : ∃ ad,v = .slice ad n cap:=by
 rcases h with ⟨rfl,rfl,rfl,_⟩ | ⟨g,rfl,_⟩
 ·exact ⟨_,rfl⟩
 exact ⟨_,rfl⟩

theorem RS.below (h : RS base w v n cap L) (hb : Below w.heap.size w w') : RS base w' v n cap L:=by
 rcases h with h | ⟨g,h1,h2,h3,h4⟩
 ·exact .inl h
 exact .inr ⟨g,h1,h2,h3.below hb,h4⟩
theorem run_append_rs {w0 : World} (h : RS w0.heap.size w v n cap L) (hb : Below w0.heap.size w0 w) (x : Raw) (a : Addr) (ha : ∀ j u,(x.enc)[j]? = some u→w.cell? (a.add j) = some u) (hn : n≤1073741824) (ty : TypeId) :
  ∃ v' w',(Builtin.append_ #[43,43] ty #[v,.slice (some a) 1 1]).run Tryz.prog w = .ok v' w'∧∃ cap' L',RS w0.heap.size w' v' (n + 1) cap' L'∧L'.take (n + 1) = L.take n ++ [x]∧(∀ y ∈ L',y ∈ L ∨ y = x ∨ y = zr)∧Below w0.heap.size w0 w'∧w.grownBy w' v.ownBlock∧(v'.ownBlock = v.ownBlock ∨ v'.ownBlock = some w.heap.size):=by
 obtain ⟨i0,hi,hz0,hz1,hz2⟩:=info_parts infoP
 have hxl : x.enc.length = 1 * i0.size:=by rw [hz1]; rfl
 have hx1 : ∀ u ∈ x.enc,u.oneCell' = true:=v3_one _ _ _ _ _
 have hfx : x.enc = flat [x]:=by simp [flat]
 rcases h with ⟨rfl,rfl,rfl,rfl⟩ | ⟨g,rfl,hg,hr,hl,hnc,hcm⟩
 ·have hr:=run_append_nil (P:=Tryz.prog) w 43 ty 87 i0 _ Tryz.underlying43 hi hz0 a 1 1 x.enc hxl ha (by decide) (by decide) (by rw [hz2]; decide)
  have hge:=grownCap_ge w 1 0 87
  have hcm:=grownCap_le_maxLen w 1 0 87 (by unfold maxLen; decide)
  rw [zeroP,hfx,List.append_toArray,← flat_append] at hr
  refine ⟨_,_,hr,_,_,.inr ⟨_,rfl,hb.size,heap_alloc_new w.drew _,by simp; omega,hge,hcm⟩,by simp,fun y hy => ?_,below_drew_alloc hb _,grown_drew_alloc w _ _,.inr rfl⟩
  rcases List.mem_append.1 hy with h | h
  ·exact .inr (.inl (List.mem_singleton.1 h))
  exact .inr (.inr (List.eq_of_mem_replicate h))
 by_cases hroom : n + 1≤cap
 ·have hr':=run_append_room (P:=Tryz.prog) w 43 ty 87 i0 Tryz.underlying43 hi g n cap (flat L).toArray hr a 1 1 x.enc hxl ha hx1 hroom (by rw [hz1]; simp [flat_length]; rw [show x.enc.length = 3 from rfl]; omega)
  have e1 : ((flat L).toArray.toList.take (n * i0.size) ++ x.enc ++ (flat L).toArray.toList.drop (n * i0.size + x.enc.length)) = flat (L.take n ++ [x] ++ L.drop (n + 1)):=by
   rw [hz1,show x.enc.length = 3 from rfl,show n * 3 + 3 = (n + 1) * 3 by omega]
   dsimp only
   rw [flat_take,flat_drop,flat_append,flat_append,hfx]
  rw [e1] at hr'
  refine ⟨_,_,hr',cap,L.take n ++ [x] ++ L.drop (n + 1),.inr ⟨g,rfl,hg,setRow_heap w g _ _ _ _ hr,by simp; omega,hroom,hcm⟩,?_,fun y hy => ?_,hb.trans ⟨rfl,rfl,rfl,by simp,fun k hk => setRow_other w g k _ o_m⟩,⟨rfl,rfl,rfl,by simp,fun k _ hk => setRow_other w g k _ (fun e => hk (by simp [Value.ownBlock,e]))⟩,.inl rfl⟩
  ·have e : (L.take n ++ [x]).length = n + 1:=by simp; omega
   rw [← e,List.take_left]
  rcases List.mem_append.1 hy with h | h
  ·rcases List.mem_append.1 h with h | h
   ·exact .inl (List.mem_of_mem_take h)
   exact .inr (.inl (List.mem_singleton.1 h))
  exact .inl (List.mem_of_mem_drop h)
 have holds : ∀ j u,(flat (L.take n))[j]? = some u→w.cell? ((⟨g,0,none⟩ : Addr).add j) = some u:=fun j u hu => by
  rw [Addr.add_lit,Nat.zero_add,cell_of_row w g j _ _ (0,0) hr]
  rw [← flat_take] at hu
  rw [List.getElem?_take] at hu
  split at hu
  ·simpa using hu
  cases hu
 have hr':=run_append_grow (P:=Tryz.prog) w 43 ty 87 i0 _ Tryz.underlying43 hi hz0 ⟨g,0,none⟩ n cap (flat (L.take n)) (by rw [hz1,flat_length]; simp; omega) holds a 1 1 x.enc hxl ha o_m o_m (growslice_fits o_m (by rw [hz2]; omega))
 have hge:=grownCap_ge w (n + 1) cap 87
 have hcm':=grownCap_le_maxLen w (n + 1) cap 87 (by unfold maxLen; omega)
 rw [zeroP,hfx,List.append_toArray,List.append_toArray,← flat_append,← flat_append] at hr'
 refine ⟨_,_,hr',_,_,.inr ⟨_,rfl,hb.size,heap_alloc_new w.drew _,by simp; omega,hge,hcm'⟩,?_,fun y hy => ?_,below_drew_alloc hb _,grown_drew_alloc w _ _,.inr rfl⟩
 ·have e : (L.take n ++ [x]).length = n + 1:=by simp; omega
  rw [← e,List.take_left]
 rcases List.mem_append.1 hy with h | h
 ·rcases List.mem_append.1 h with h | h
  ·exact .inl (List.mem_of_mem_take h)
  exact .inr (.inl (List.mem_singleton.1 h))
 exact .inr (.inr (List.eq_of_mem_replicate h))

theorem RS.zn (h : RS base w v n cap L) (hg : w.grownBy w' v.ownBlock) {s : Bool} {a : Option Addr} {l c : Nat} {z : Int} (hz : Zn w s a l c z) : Zn w' s a l c z:=by
 rcases h with ⟨rfl,_⟩ | ⟨g,rfl,_,hr,_⟩
 ·exact hz.below (gb_none hg)
 exact hz.grownU hg hr.noU

def ins : List (Int × Int)→Int × Int→List (Int × Int)
 | [],p => [p]
 | q :: qs,p => if q.1 < p.1 then q :: ins qs p else if q.1 = p.1 then (q.1,q.2 + p.2) :: qs else p :: q :: qs
theorem csum_ins (qs : List (Int × Int)) (p : Int × Int) (v : Int) : csum (ins qs p) v = csum qs v + if p.1 = v then p.2 else 0:=by
 induction qs with
 | nil => simp [ins,csum]
 | cons q qs ih =>
  unfold ins
  split
  ·simp only [csum,ih]; omega
  split
  ·rename_i h
   simp only [csum,h]
   split <;> omega
  simp only [csum]; omega
theorem ins_mem {p r : Int × Int} (h : r ∈ ins qs p) : r.1 = p.1 ∨ ∃ q ∈ qs,q.1 = r.1:=by
 induction qs with
 | nil => simp [ins] at h; exact .inl (by rw [h])
 | cons q qs ih =>
  unfold ins at h
  split at h
  ·rcases List.mem_cons.1 h with rfl | h
   ·exact .inr ⟨r,by simp,rfl⟩
   rcases ih h with h | ⟨x,hx,e⟩
   ·exact .inl h
   exact .inr ⟨x,by simp [hx],e⟩
  split at h
  ·rcases List.mem_cons.1 h with rfl | h
   ·exact .inr ⟨q,by simp,rfl⟩
   exact .inr ⟨r,by simp [h],rfl⟩
  rcases List.mem_cons.1 h with rfl | h
  ·exact .inl rfl
  exact .inr ⟨r,h,rfl⟩
def Rise (qs : List (Int × Int)) : Prop:=qs.Pairwise (fun p q => p.1 < q.1)
theorem rise_ins (h : Rise qs) (p : Int × Int) : Rise (ins qs p):=by
 induction qs with
 | nil => simp [ins,Rise]
 | cons q qs ih =>
  have h1:=List.pairwise_cons.1 h
  unfold ins
  split
  ·refine List.pairwise_cons.2 ⟨fun r hr => ?_,ih h1.2⟩
   rcases ins_mem hr with e | ⟨x,hx,e⟩
   ·omega
   have:=h1.1 x hx; omega
  split
  ·exact List.pairwise_cons.2 ⟨fun r hr => h1.1 r hr,h1.2⟩
  refine List.pairwise_cons.2 ⟨fun r hr => ?_,h⟩
  rcases List.mem_cons.1 hr with rfl | hr
  ·omega
  have:=h1.1 r hr; omega
theorem flat_set (L : List Raw) : ∀ (t : Nat) (_ : t < L.length) (y : Raw),(((flat L).set (t * 3) (.int .i64 y.v)).set (t * 3 + 1) (.bool y.s)).set (t * 3 + 2) (.slice y.a y.l y.c) = flat (L.set t y):=by
 induction L with
 | nil => intro t ht; cases ht
 | cons x L ih =>
  intro t ht y
  have e : flat (x :: L) = .int .i64 x.v :: .bool x.s :: .slice x.a x.l x.c :: flat L:=by simp [flat,Raw.enc]
  cases t with
  | zero =>
   rw [e]
   simp [flat,Raw.enc]
  | succ t =>
   have e2 : flat ((x :: L).set (t + 1) y) = .int .i64 x.v :: .bool x.s :: .slice x.a x.l x.c :: flat (L.set t y):=by simp [flat,Raw.enc]
   rw [e,e2,← ih t (by simpa using ht) y,show (t + 1) * 3 = t * 3 + 1 + 1 + 1 by omega]
   simp
def Rok (w : World) (B : Nat) (L : List Raw) : Prop:=∀ x ∈ L,x.ok w B
theorem Rok.below (h : Rok w B L) (hb : Below w.heap.size w w') : Rok w' B L:=fun x hx => ⟨(h x hx).1.below hb,(h x hx).2⟩
theorem Rok.grownU {b : Nat} (h : Rok w B L) (hg : w.grownBy w' (some b)) (hb : NoU w b) : Rok w' B L:=fun x hx => raw_grown hg hb (h x hx)
theorem zr_ok (w : World) (B : Nat) : zr.ok w B:=⟨zn_zero w,Nat.zero_le _,by unfold I64; decide⟩

def lays (qs ps : List (Int × Int)) : List (Int × Int):=ps.foldl ins qs
theorem csum_lays (ps : List (Int × Int)) : ∀ (qs : List (Int × Int)) (v : Int),csum (lays qs ps) v = csum qs v + csum ps v:=by
 induction ps with
 | nil => intro qs v; simp [lays,csum]
 | cons p ps ih =>
  intro qs v
  have:=ih (ins qs p) v
  unfold lays at this ⊢
  rw [List.foldl_cons,this,csum_ins]
  simp only [csum]
  omega
theorem rise_lays (ps : List (Int × Int)) : ∀ {qs : List (Int × Int)},Rise qs→Rise (lays qs ps):=by
 induction ps with
 | nil => intro qs h; exact h
 | cons p ps ih => intro qs h; exact ih (rise_ins h p)
def nz (qs : List (Int × Int)) : List (Int × Int):=qs.filter (fun p => p.2 ≠ 0)
theorem csum_nz (qs : List (Int × Int)) (v : Int) : csum (nz qs) v = csum qs v:=by
 induction qs with
 | nil => rfl
 | cons q qs ih =>
  unfold nz at ih ⊢
  by_cases h : q.2 = 0
  ·rw [List.filter_cons_of_neg (by simpa using h),ih]
   simp only [csum,h]
   split <;> omega
  rw [List.filter_cons_of_pos (by simpa using h)]
  simp only [csum,ih]
theorem std_nz (h : Rise qs) : Std (nz qs):=by
 exact ⟨List.Pairwise.filter _ h,fun p hp => by simpa using (List.mem_filter.1 hp).2⟩

theorem RS.grown {o : Nat} (h : RS base w v n cap L) (hg : w.grownBy w' (some o)) (ho : o < base) : RS base w' v n cap L:=by
 rcases h with h | ⟨g,e,hb,hr,h⟩
 ·exact .inl h
 exact .inr ⟨g,e,hb,hr.grown hg o_m,h⟩

def Pn (w : World) (ad : Option Addr) (n : Nat) (ps : List (Int × Int)) (B : Nat) : Prop :=
 ps.length = n∧(n = 0 ∨ ∃ b off,ad = some ⟨b,off,none⟩∧b < w.heap.size∧∀ i (h : i < ps.length),∃ s a l c,w.cell? ⟨b,off + i * 3,none⟩ = some (.int .i64 (ps[i]).1)∧w.cell? ⟨b,off + i * 3 + 1,none⟩ = some (.bool s)∧w.cell? ⟨b,off + i * 3 + 2,none⟩ = some (.slice a l c)∧Zn w s a l c (ps[i]).2∧l≤B∧I64 (ps[i]).1)
theorem Pn.pr (h : Pn w ad n ps B) : Pr w ad n ps B:=by
 refine ⟨h.1,?_⟩
 rcases h.2 with h2 | ⟨b,off,e,hlt,h2⟩
 ·exact .inl h2
 refine .inr ⟨b,off,e,hlt,fun i hi => ?_⟩
 obtain ⟨s,a,l,c,e0,e1,e2,hz,hl,hv⟩:=h2 i hi
 exact ⟨s,a,l,c,e0,e1,e2,hz.zm,hl,hv⟩
theorem Pn.below (h : Pn w ad n ps B) (hb : Below w.heap.size w w') : Pn w' ad n ps B:=by
 refine ⟨h.1,?_⟩
 rcases h.2 with h2 | ⟨b,off,e,hlt,h2⟩
 ·exact .inl h2
 refine .inr ⟨b,off,e,Nat.lt_of_lt_of_le hlt hb.size,fun i hi => ?_⟩
 obtain ⟨s,a,l,c,e0,e1,e2,hr,hl,hv⟩:=h2 i hi
 exact ⟨s,a,l,c,(hb.cell (p:=⟨b,off + i * 3,none⟩) hlt).trans e0,(hb.cell (p:=⟨b,off + i * 3 + 1,none⟩) hlt).trans e1,(hb.cell (p:=⟨b,off + i * 3 + 2,none⟩) hlt).trans e2,hr.below hb,hl,hv⟩
theorem Pn.mono {B' : Nat} (h : Pn w ad n ps B) (hB : B≤B') : Pn w ad n ps B':=by
 refine ⟨h.1,?_⟩
 rcases h.2 with h2 | ⟨b,off,e,hlt,h2⟩
 ·exact .inl h2
 refine .inr ⟨b,off,e,hlt,fun i hi => ?_⟩
 obtain ⟨s,a,l,c,e0,e1,e2,hr,hl,hv⟩:=h2 i hi
 exact ⟨s,a,l,c,e0,e1,e2,hr,Nat.le_trans hl hB,hv⟩
theorem pn_nil (w : World) (ad : Option Addr) (B : Nat) : Pn w ad 0 [] B:=⟨rfl,.inl rfl⟩
theorem rs_pn (h : RS base w (.slice ad n cap) n cap L) (hok : Rok w B L) : Pn w ad n ((L.take n).map Raw.p) B:=by
 rcases h with ⟨e,h0,_,rfl⟩ | ⟨g,e,hb,hr,hl,hn,_⟩
 ·subst h0; exact ⟨by simp,.inl rfl⟩
 simp at e
 subst e
 refine ⟨by simp; omega,.inr ⟨g,0,rfl,hr.lt,fun i hi => ?_⟩⟩
 have hi' : i < L.length:=by simp at hi; omega
 have hx:=hok L[i] (List.getElem_mem hi')
 exact ⟨(L[i]).s,(L[i]).a,(L[i]).l,(L[i]).c,by simpa [Raw.p] using hr.c0 hi',by simpa using hr.c1 hi',by simpa using hr.c2 hi',by simpa [Raw.p] using hx.1,hx.2.1,by simpa [Raw.p] using hx.2.2⟩
end Go.Proofs.YtghboandiekiiaaGreatDoor
