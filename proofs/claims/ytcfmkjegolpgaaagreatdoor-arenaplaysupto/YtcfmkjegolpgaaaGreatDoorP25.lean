/-
 Several texts in one: YJ,YK,YL,YM,B2,G2,YN.
-/
import Derived.Test.YtcfmkjegolpgaaaGreatDoorPT
import Derived.Test.YtcfmkjegolpgaaaGreatDoorP24
import Derived.Laws.CopyRow
import Derived.Test.YtcfmkjegolpgaaaGreatDoorP15
import Derived.Test.YtcfmkjegolpgaaaGreatDoorP16
import Derived.Test.YtcfmkjegolpgaaaGreatDoorP18
set_option maxRecDepth 100000
set_option maxHeartbeats 6400000
namespace Go.Proofs.YtcfmkjegolpgaaaGreatDoor
open Go.RowKit Go.Sort Go.Shelf
open Tm

variable {w w' : World} {g base n cap t B l c cp o : Nat} {L : List Raw} {v : Value} {s : Bool} {qs ps : List (Int × Int)} {a ad : Option Addr}
def zr : Raw:=⟨0,false,none,0,0,0⟩
def RB (w : World) (g : Nat) (L : List Raw) : Prop:=w.heap[g]? = some (.cells (flat L).toArray 69 (0,0))
theorem RB.lt (h : RB w g L) : g < w.heap.size:=(Array.getElem?_eq_some_iff.1 h).1
theorem RB.below (h : RB w g L) (hb : Below w.heap.size w w') : RB w' g L:=(hb.block g h.lt).trans h
theorem RB.grown {m : Nat} (h : RB w g L) (hg : w.grownBy w' (some m)) (hm : g ≠ m) : RB w' g L:=(hg.block g h.lt (by simpa using hm)).trans h
theorem RB.cell (h : RB w g L) {i c : Nat} (hi : i < L.length) (hc : c < 3) : w.cell? ⟨g,i * 3 + c,none⟩ = (L[i]).enc[c]?:=by
 rw [cell_of_row w g (i * 3 + c) _ _ (0,0) h,← flat_get L i c hi hc]
 simp
theorem RB.c0 (h : RB w g L) {i : Nat} (hi : i < L.length) : w.cell? ⟨g,i * 3,none⟩ = some (.int .i64 (L[i]).v):=by simpa [Raw.enc] using h.cell hi (c:=0) (by decide)
theorem RB.c1 (h : RB w g L) {i : Nat} (hi : i < L.length) : w.cell? ⟨g,i * 3 + 1,none⟩ = some (.bool (L[i]).s):=by simpa [Raw.enc] using h.cell hi (c:=1) (by decide)
theorem RB.c2 (h : RB w g L) {i : Nat} (hi : i < L.length) : w.cell? ⟨g,i * 3 + 2,none⟩ = some (.slice (L[i]).a (L[i]).l (L[i]).c):=by simpa [Raw.enc] using h.cell hi (c:=2) (by decide)
theorem RB.f (h : RB w g L) (o : Nat) : w.frozen? ⟨g,o,none⟩ = false:=frozen_of_row w g o _ _ h
theorem RB.noU (h : RB w g L) : NoU w g:=by
 intro off x hx
 rw [cell_of_row w g off _ _ (0,0) h] at hx
 have hm : (Value.int .u32 x) ∈ flat L:=by
  have : (flat L)[off]? = some (.int .u32 x):=by simpa using hx
  exact List.mem_of_getElem? this
 obtain ⟨r,_,hr⟩:=List.mem_flatMap.1 hm
 simp [Raw.enc] at hr
theorem flat_append (xs ys : List Raw) : flat (xs ++ ys) = flat xs ++ flat ys:=by simp [flat]
theorem flat_take (L : List Raw) : ∀ k,(flat L).take (k * 3) = flat (L.take k):=by
 induction L with
 | nil => intro k; simp [flat]
 | cons x L ih =>
  intro k
  cases k with
  | zero => simp [flat]
  | succ k =>
   have e : flat (x :: L) = x.enc ++ flat L:=by simp [flat]
   rw [e,List.take_succ_cons,show flat (x :: L.take k) = x.enc ++ flat (L.take k) by simp [flat],← ih k]
   have hl : x.enc.length = 3:=rfl
   rw [List.take_append,List.take_of_length_le o_m,hl,show (k + 1) * 3 - 3 = k * 3 by omega]
theorem flat_drop (L : List Raw) : ∀ k,(flat L).drop (k * 3) = flat (L.drop k):=by
 induction L with
 | nil => intro k; simp [flat]
 | cons x L ih =>
  intro k
  cases k with
  | zero => simp [flat]
  | succ k =>
   have e : flat (x :: L) = x.enc ++ flat L:=by simp [flat]
   rw [e,List.drop_succ_cons,← ih k]
   have hl : x.enc.length = 3:=rfl
   rw [List.drop_append,List.drop_eq_nil_of_le o_m,hl,show (k + 1) * 3 - 3 = k * 3 by omega,List.nil_append]
theorem flat_one (u : Value) (L : List Raw) (h : u ∈ flat L) : u.oneCell' = true:=by
 obtain ⟨r,_,hr⟩:=List.mem_flatMap.1 h
 exact v3_one _ _ _ _ _ u hr
theorem zero_get3 (z : Array Value) (k j : Nat) (h : j < k * z.size) : (Builtin.zeroCells z k)[j]? = some z[j % z.size]!:=by
 simp [Builtin.zeroCells,h]
theorem zeroP (k : Nat) : Builtin.zeroCells (Value.agg #[.int .i64 0,.bool false,.slice none 0 0]).cells k = (flat (List.replicate k zr)).toArray:=by
 apply Array.ext'
 apply List.ext_getElem?
 intro j
 by_cases hj : j < k * 3
 ·have h1 : (flat (List.replicate k zr))[j]? = (zr.enc)[j % 3]?:=by
   have:=flat_get (List.replicate k zr) (j / 3) (j % 3) (by simp; omega) (Nat.mod_lt _ (by decide))
   rw [show j / 3 * 3 + j % 3 = j from by omega] at this
   rw [this]
   simp
  rw [List.toList_toArray,h1,Array.getElem?_toList,zero_get3]
  ·have hm : j % 3 = 0 ∨ j % 3 = 1 ∨ j % 3 = 2:=by omega
   rcases hm with e | e | e <;> simp [Value.cells,e,zr,Raw.enc]
  simpa [Value.cells] using hj
 rw [List.getElem?_eq_none (by simp [Builtin.zeroCells,Value.cells]; omega),List.getElem?_eq_none (by rw [List.toList_toArray,flat_length]; simp; omega)]

def RS (base : Nat) (w : World) (v : Value) (n cap : Nat) (L : List Raw) : Prop :=
 (v = .slice none 0 0∧n = 0∧cap = 0∧L = []) ∨ ∃ g,v = .slice (some ⟨g,0,none⟩) n cap∧base≤g∧RB w g L∧L.length = cap∧n≤cap∧cap≤maxLen

theorem RS.row (h : RS base w v n cap L) : ∃ ad,v = .slice ad n cap:=by
 rcases h with ⟨rfl,rfl,rfl,_⟩ | ⟨g,rfl,_⟩
 ·exact ⟨_,rfl⟩
 exact ⟨_,rfl⟩

theorem RS.below (h : RS base w v n cap L) (hb : Below w.heap.size w w') : RS base w' v n cap L:=by
 rcases h with h | ⟨g,h1,h2,h3,h4⟩
 ·exact .inl h
 exact .inr ⟨g,h1,h2,h3.below hb,h4⟩
theorem run_append_rs {w0 : World} (h : RS w0.heap.size w v n cap L) (hb : Below w0.heap.size w0 w) (x : Raw) (a : Addr) (ha : ∀ j u,(x.enc)[j]? = some u→w.cell? (a.add j) = some u) (hn : n≤1073741824) (ty : TypeId) :
  ∃ v' w',(Builtin.append_ #[38,38] ty #[v,.slice (some a) 1 1]).run Tryz.prog w = .ok v' w'∧∃ cap' L',RS w0.heap.size w' v' (n + 1) cap' L'∧L'.take (n + 1) = L.take n ++ [x]∧(∀ y ∈ L',y ∈ L ∨ y = x ∨ y = zr)∧Below w0.heap.size w0 w'∧w.grownBy w' v.ownBlock∧(v'.ownBlock = v.ownBlock ∨ v'.ownBlock = some w.heap.size):=by
 obtain ⟨i0,hi,hz0,hz1,hz2⟩:=info_parts infoP
 have hxl : x.enc.length = 1 * i0.size:=by rw [hz1]; rfl
 have hx1 : ∀ u ∈ x.enc,u.oneCell' = true:=v3_one _ _ _ _ _
 have hfx : x.enc = flat [x]:=by simp [flat]
 rcases h with ⟨rfl,rfl,rfl,rfl⟩ | ⟨g,rfl,hg,hr,hl,hnc,hcm⟩
 ·have hr:=run_append_nil (P:=Tryz.prog) w 38 ty 69 i0 _ Tryz.underlying38 hi hz0 a 1 1 x.enc hxl ha (by decide) (by decide) (by rw [hz2]; decide)
  have hge:=grownCap_ge w 1 0 69
  have hcm:=grownCap_le_maxLen w 1 0 69 (by unfold maxLen; decide)
  rw [zeroP,hfx,List.append_toArray,← flat_append] at hr
  refine ⟨_,_,hr,_,_,.inr ⟨_,rfl,hb.size,heap_alloc_new w.drew _,by simp; omega,hge,hcm⟩,by simp,fun y hy => ?_,below_drew_alloc hb _,grown_drew_alloc w _ _,.inr rfl⟩
  rcases List.mem_append.1 hy with h | h
  ·exact .inr (.inl (List.mem_singleton.1 h))
  exact .inr (.inr (List.eq_of_mem_replicate h))
 by_cases hroom : n + 1≤cap
 ·have hr':=run_append_room (P:=Tryz.prog) w 38 ty 69 i0 Tryz.underlying38 hi g n cap (flat L).toArray hr a 1 1 x.enc hxl ha hx1 hroom (by rw [hz1]; simp [flat_length]; rw [show x.enc.length = 3 from rfl]; omega)
  have e1 : ((flat L).toArray.toList.take (n * i0.size) ++ x.enc ++ (flat L).toArray.toList.drop (n * i0.size + x.enc.length)) = flat (L.take n ++ [x] ++ L.drop (n + 1)):=by
   rw [hz1,show x.enc.length = 3 from rfl,show n * 3 + 3 = (n + 1) * 3 by omega]
   dsimp only
   rw [flat_take,flat_drop,flat_append,flat_append,hfx]
  rw [e1] at hr'
  refine ⟨_,_,hr',cap,L.take n ++ [x] ++ L.drop (n + 1),.inr ⟨g,rfl,hg,setRow_heap w g _ _ _ _ hr,by simp; omega,hroom,hcm⟩,?_,fun y hy => ?_,hb.trans ⟨rfl,rfl,rfl,by simp,fun k hk => setRow_other w g k _ o_m⟩,⟨rfl,rfl,rfl,by simp,fun k _ hk => setRow_other w g k _ (fun e => hk (by simp [Value.ownBlock,e]))⟩,.inl rfl⟩
  ·have e : (L.take n ++ [x]).length = n + 1:=by simp; omega
   rw [← e,List.take_left]
  rcases List.mem_append.1 hy with h | h
  ·rcases List.mem_append.1 h with h | h
   ·exact .inl (List.mem_of_mem_take h)
   exact .inr (.inl (List.mem_singleton.1 h))
  exact .inl (List.mem_of_mem_drop h)
 have holds : ∀ j u,(flat (L.take n))[j]? = some u→w.cell? ((⟨g,0,none⟩ : Addr).add j) = some u:=fun j u hu => by
  rw [Addr.add_lit,Nat.zero_add,cell_of_row w g j _ _ (0,0) hr]
  rw [← flat_take] at hu
  rw [List.getElem?_take] at hu
  split at hu
  ·simpa using hu
  cases hu
 have hr':=run_append_grow (P:=Tryz.prog) w 38 ty 69 i0 _ Tryz.underlying38 hi hz0 ⟨g,0,none⟩ n cap (flat (L.take n)) (by rw [hz1,flat_length]; simp; omega) holds a 1 1 x.enc hxl ha o_m o_m (growslice_fits o_m (by rw [hz2]; omega))
 have hge:=grownCap_ge w (n + 1) cap 69
 have hcm':=grownCap_le_maxLen w (n + 1) cap 69 (by unfold maxLen; omega)
 rw [zeroP,hfx,List.append_toArray,List.append_toArray,← flat_append,← flat_append] at hr'
 refine ⟨_,_,hr',_,_,.inr ⟨_,rfl,hb.size,heap_alloc_new w.drew _,by simp; omega,hge,hcm'⟩,?_,fun y hy => ?_,below_drew_alloc hb _,grown_drew_alloc w _ _,.inr rfl⟩
 ·have e : (L.take n ++ [x]).length = n + 1:=by simp; omega
  rw [← e,List.take_left]
 rcases List.mem_append.1 hy with h | h
 ·rcases List.mem_append.1 h with h | h
  ·exact .inl (List.mem_of_mem_take h)
  exact .inr (.inl (List.mem_singleton.1 h))
 exact .inr (.inr (List.eq_of_mem_replicate h))

theorem RS.zn (h : RS base w v n cap L) (hg : w.grownBy w' v.ownBlock) {s : Bool} {a : Option Addr} {l c : Nat} {z : Int} (hz : Zn w s a l c z) : Zn w' s a l c z:=by
 rcases h with ⟨rfl,_⟩ | ⟨g,rfl,_,hr,_⟩
 ·exact hz.below (gb_none hg)
 exact hz.grownU hg hr.noU
theorem RS.zm (h : RS base w v n cap L) (hg : w.grownBy w' v.ownBlock) {s : Bool} {a : Option Addr} {l c : Nat} {z : Int} (hz : Zm w s a l c z) : Zm w' s a l c z:=by
 rcases h with ⟨rfl,_⟩ | ⟨g,rfl,_,hr,_⟩
 ·exact hz.below (gb_none hg)
 exact hz.grownU hg hr.noU

theorem run_copy_rb {d s m dcap scap ls ld : Nat} (h : RB w g L) (hs : s + m≤L.length) (hd : d + m≤L.length) (hm : m = Nat.min ls ld) (ty : TypeId) :
  (Builtin.copy_ #[38,38] ty #[.slice (some ⟨g,d * 3,none⟩) ld dcap,.slice (some ⟨g,s * 3,none⟩) ls scap]).run Tryz.prog w = .ok (goInt m) (w.setRow g (flat (L.take d ++ (L.drop s).take m ++ L.drop (d + m))).toArray):=by
 obtain ⟨i0,hi,hz0,hz1,hz2⟩:=info_parts infoP
 have hcl : (flat ((L.drop s).take m)).length = m * 3:=by rw [flat_length]; simp; omega
 have hl:=run_loadCells_list (P:=Tryz.prog) w ⟨g,s * 3,none⟩ (flat ((L.drop s).take m)) (fun j v hv => by
  rw [Addr.add_lit,cell_of_row w g _ _ _ (0,0) h]
  rw [← flat_take,← flat_drop,List.getElem?_take] at hv
  split at hv
  ·rw [List.getElem?_drop] at hv; simpa using hv
  cases hv)
 have hst:=run_storeCells_at Tryz.prog g (d * 3) 69 (flat ((L.drop s).take m)) 0 (flat L).toArray w h (by simp [hcl,flat_length]; omega) (fun u hu => flat_one u _ hu)
 have e1 : (flat L).take (d * 3) ++ flat ((L.drop s).take m) ++ (flat L).drop (d * 3 + (flat ((L.drop s).take m)).length) = flat (L.take d ++ (L.drop s).take m ++ L.drop (d + m)):=by
  rw [hcl,show d * 3 + m * 3 = (d + m) * 3 by omega,flat_take,flat_drop,flat_append,flat_append]
 have hmin : m * i0.size = (flat ((L.drop s).take m)).length:=by rw [hcl,hz1]
 simp only [Nat.add_zero] at hst
 rw [e1] at hst
 simp [Builtin.copy_,run_underlying Tryz.underlying38,Builtin.lenOf,Builtin.firstCells,sizeOf,typeInfo,hi,← hm]
 rw [hmin,hl]
 simp only [List.append_assoc] at hst
 simp [hst]
theorem run_copy_zero {da sa : Option Addr} {dcap scap ls ld : Nat} (hm : Nat.min ls ld = 0) (ty : TypeId) :
  (Builtin.copy_ #[38,38] ty #[.slice da ld dcap,.slice sa ls scap]).run Tryz.prog w = .ok (goInt 0) w:=by
 obtain ⟨i0,hi,hz0,hz1,hz2⟩:=info_parts infoP
 cases sa <;> cases da <;> simp [Builtin.copy_,run_underlying Tryz.underlying38,Builtin.lenOf,Builtin.firstCells,sizeOf,typeInfo,hi,hm,loadCells,loadCellsFrom,storeCells]
def lay (L : List Raw) (t n : Nat) (y : Raw) : List Raw:=(L.take (t + 1) ++ (L.drop t).take (n - t) ++ L.drop (t + 1 + (n - t))).set t y
theorem lay_take {L0 : List Raw} {y z : Raw} (h : L.take (n + 1) = L0 ++ [z]) (h0 : L0.length = n) (ht : t≤n) : (lay L t n y).take (n + 1) = L0.take t ++ [y] ++ L0.drop t:=by
 have hlen : n + 1≤L.length:=by
  have:=congrArg List.length h
  simp at this
  omega
 have hL : ∀ i,i < n→L[i]? = L0[i]?:=fun i hi => by
  have:=congrArg (fun l => l[i]?) h
  simp only [List.getElem?_take,List.getElem?_append] at this
  rw [if_pos o_m,if_pos o_m] at this
  exact this
 have hm : min (t + 1) L.length = t + 1:=by omega
 have hm0 : min t L0.length = t:=by omega
 have hm2 : min (n - t) (L.length - t) = n - t:=by omega
 apply List.ext_getElem?
 intro i
 unfold lay
 simp only [List.getElem?_take,List.getElem?_set,List.getElem?_append,List.getElem?_drop,List.length_append,List.length_take,List.length_drop,List.length_cons,List.length_nil,hm,hm0,hm2]
 by_cases h1 : i < t
 ·rw [if_pos o_m,if_neg o_m,if_pos o_m,if_pos o_m,if_pos o_m,if_pos o_m,if_pos o_m,if_pos o_m]
  exact hL i o_m
 by_cases h2 : i = t
 ·subst h2
  rw [if_pos o_m,if_pos rfl,if_pos o_m,if_pos o_m,if_neg o_m]
  simp
 by_cases h3 : i < n + 1
 ·rw [if_pos o_m,if_neg o_m,if_pos o_m,if_neg o_m,if_pos o_m,if_neg o_m]
  rw [hL _ o_m]
 rw [if_neg o_m,if_neg o_m,List.getElem?_eq_none o_m]

def ins : List (Int × Int)→Int × Int→List (Int × Int)
 | [],p => [p]
 | q :: qs,p => if q.1 < p.1 then q :: ins qs p else if q.1 = p.1 then (q.1,q.2 + p.2) :: qs else p :: q :: qs
theorem csum_ins (qs : List (Int × Int)) (p : Int × Int) (v : Int) : csum (ins qs p) v = csum qs v + if p.1 = v then p.2 else 0:=by
 induction qs with
 | nil => simp [ins,csum]
 | cons q qs ih =>
  unfold ins
  split
  ·simp only [csum,ih]; omega
  split
  ·rename_i h
   simp only [csum,h]
   split <;> omega
  simp only [csum]; omega
theorem ins_mem {p r : Int × Int} (h : r ∈ ins qs p) : r.1 = p.1 ∨ ∃ q ∈ qs,q.1 = r.1:=by
 induction qs with
 | nil => simp [ins] at h; exact .inl (by rw [h])
 | cons q qs ih =>
  unfold ins at h
  split at h
  ·rcases List.mem_cons.1 h with rfl | h
   ·exact .inr ⟨r,by simp,rfl⟩
   rcases ih h with h | ⟨x,hx,e⟩
   ·exact .inl h
   exact .inr ⟨x,by simp [hx],e⟩
  split at h
  ·rcases List.mem_cons.1 h with rfl | h
   ·exact .inr ⟨q,by simp,rfl⟩
   exact .inr ⟨r,by simp [h],rfl⟩
  rcases List.mem_cons.1 h with rfl | h
  ·exact .inl rfl
  exact .inr ⟨r,h,rfl⟩
def Rise (qs : List (Int × Int)) : Prop:=qs.Pairwise (fun p q => p.1 < q.1)
theorem rise_ins (h : Rise qs) (p : Int × Int) : Rise (ins qs p):=by
 induction qs with
 | nil => simp [ins,Rise]
 | cons q qs ih =>
  have h1:=List.pairwise_cons.1 h
  unfold ins
  split
  ·refine List.pairwise_cons.2 ⟨fun r hr => ?_,ih h1.2⟩
   rcases ins_mem hr with e | ⟨x,hx,e⟩
   ·omega
   have:=h1.1 x hx; omega
  split
  ·exact List.pairwise_cons.2 ⟨fun r hr => h1.1 r hr,h1.2⟩
  refine List.pairwise_cons.2 ⟨fun r hr => ?_,h⟩
  rcases List.mem_cons.1 hr with rfl | hr
  ·omega
  have:=h1.1 r hr; omega
theorem ins_at : ∀ (qs : List (Int × Int)) (p : Int × Int) (k : Nat),(∀ i (h : i < qs.length),i < k→qs[i].1 < p.1)→(∀ h : k < qs.length,¬ qs[k].1 < p.1)→k≤qs.length →
  ins qs p = if h : k < qs.length then (if qs[k].1 = p.1 then qs.take k ++ [(qs[k].1,qs[k].2 + p.2)] ++ qs.drop (k + 1) else qs.take k ++ [p] ++ qs.drop k) else qs ++ [p]
 | [],p,k,_,_,h => by
  obtain rfl : k = 0:=by simpa using h
  simp [ins]
 | q :: qs,p,0,_,h2,_ => by
  have:=h2 (by simp)
  simp at this
  unfold ins
  rw [if_neg (by simpa using this)]
  simp
 | q :: qs,p,k + 1,h1,h2,h3 => by
  have h0:=h1 0 (by simp) o_m
  simp at h0
  have ih:=ins_at qs p k (fun i hi hk => by have:=h1 (i + 1) (by simp; omega) o_m; simpa using this) (fun hk => by have:=h2 (by simp; omega); simpa using this) (by simpa using h3)
  unfold ins
  rw [if_pos h0,ih]
  by_cases hk : k < qs.length
  ·simp [hk]
   split <;> rfl
  simp [hk]

theorem flat_set (L : List Raw) : ∀ (t : Nat) (_ : t < L.length) (y : Raw),(((flat L).set (t * 3) (.int .i64 y.v)).set (t * 3 + 1) (.bool y.s)).set (t * 3 + 2) (.slice y.a y.l y.c) = flat (L.set t y):=by
 induction L with
 | nil => intro t ht; cases ht
 | cons x L ih =>
  intro t ht y
  have e : flat (x :: L) = .int .i64 x.v :: .bool x.s :: .slice x.a x.l x.c :: flat L:=by simp [flat,Raw.enc]
  cases t with
  | zero =>
   rw [e]
   simp [flat,Raw.enc]
  | succ t =>
   have e2 : flat ((x :: L).set (t + 1) y) = .int .i64 x.v :: .bool x.s :: .slice x.a x.l x.c :: flat (L.set t y):=by simp [flat,Raw.enc]
   rw [e,e2,← ih t (by simpa using ht) y,show (t + 1) * 3 = t * 3 + 1 + 1 + 1 by omega]
   simp
theorem rb_set3 (h : RB w g L) {t : Nat} (ht : t < L.length) (y : Raw) :
  RB (((w.setCell ⟨g,t * 3,none⟩ (.int .i64 y.v)).setCell ⟨g,t * 3 + 1,none⟩ (.bool y.s)).setCell ⟨g,t * 3 + 2,none⟩ (.slice y.a y.l y.c)) g (L.set t y):=by
 unfold RB
 refine (heap_setCell_same _ g (t * 3 + 2) _ _ _ (heap_setCell_same _ g (t * 3 + 1) _ _ _ (heap_setCell_same w g (t * 3) _ _ _ h))).trans ?_
 rw [← flat_set L t ht y]
 simp
theorem rb_set2 (h : RB w g L) {t : Nat} (ht : t < L.length) (y : Raw) (hy : y.v = (L[t]).v) :
  RB ((w.setCell ⟨g,t * 3 + 1,none⟩ (.bool y.s)).setCell ⟨g,t * 3 + 2,none⟩ (.slice y.a y.l y.c)) g (L.set t y):=by
 unfold RB
 refine (heap_setCell_same _ g (t * 3 + 2) _ _ _ (heap_setCell_same w g (t * 3 + 1) _ _ _ h)).trans ?_
 rw [← flat_set L t ht y]
 have e : (flat L).set (t * 3) (.int .i64 y.v) = flat L:=by
  have:=flat_get L t 0 ht (by decide)
  apply List.ext_getElem?
  intro j
  rw [List.getElem?_set]
  by_cases hj : t * 3 = j
  ·subst hj
   have hlt : t * 3 < (flat L).length:=by rw [flat_length]; omega
   simp [hlt]
   rw [Nat.add_zero,List.getElem?_eq_getElem hlt] at this
   simp [Raw.enc] at this
   rw [this,hy]
  simp [hj]
 rw [e]
 simp
theorem set_ins {y : Raw} {pv pz : Int} (htn : t < n) (hnL : n≤L.length) (h1 : ∀ i (h : i < L.length),i < t→(L[i]).v < pv) (he : (L[t]'o_m).v = pv) (hyv : y.v = pv) (hyz : y.z = (L[t]'o_m).z + pz) : ((L.set t y).take n).map Raw.p = ins ((L.take n).map Raw.p) (pv,pz):=by
 have hlen : ((L.take n).map Raw.p).length = n:=by simp; omega
 rw [ins_at ((L.take n).map Raw.p) (pv,pz) t (fun i hi hit => by simpa [Raw.p] using h1 i o_m hit) (fun hk => by simp [Raw.p,he]) o_m]
 rw [dif_pos o_m]
 simp only [List.getElem_map,List.getElem_take]
 rw [if_pos (by simpa [Raw.p] using he),List.take_set,List.map_set,List.set_eq_take_append_cons_drop,if_pos o_m]
 simp [Raw.p,he,hyv,hyz]
theorem lay_ins {L0 : List Raw} {y : Raw} {pv pz : Int} (ht : t≤L0.length) (h1 : ∀ i (h : i < L0.length),i < t→(L0[i]).v < pv) (h2 : ∀ h : t < L0.length,¬ (L0[t]).v < pv∧(L0[t]).v ≠ pv) (hy : y.p = (pv,pz)) : (L0.take t ++ [y] ++ L0.drop t).map Raw.p = ins (L0.map Raw.p) (pv,pz):=by
 rw [ins_at (L0.map Raw.p) (pv,pz) t (fun i hi hit => by simpa [Raw.p] using h1 i (by simpa using hi) hit) (fun hk => by simpa [Raw.p] using (h2 (by simpa using hk)).1) (by simpa using ht)]
 by_cases hk : t < L0.length
 ·rw [dif_pos (by simpa using hk)]
  simp only [List.getElem_map]
  rw [if_neg (by simpa [Raw.p] using (h2 hk).2)]
  simp [hy]
 obtain rfl : t = L0.length:=by omega
 rw [dif_neg (by simp)]
 simp [hy]
def Ins (L : List Raw) (n : Nat) (L' : List Raw) (n' : Nat) (pv pz : Int) : Prop:=(L'.take n').map Raw.p = ins ((L.take n).map Raw.p) (pv,pz)
def Rok (w : World) (B : Nat) (L : List Raw) : Prop:=∀ x ∈ L,x.ok w B
theorem Rok.below (h : Rok w B L) (hb : Below w.heap.size w w') : Rok w' B L:=fun x hx => ⟨(h x hx).1.below hb,(h x hx).2⟩
theorem Rok.grownU {b : Nat} (h : Rok w B L) (hg : w.grownBy w' (some b)) (hb : NoU w b) : Rok w' B L:=fun x hx => raw_grown hg hb (h x hx)
theorem zr_ok (w : World) (B : Nat) : zr.ok w B:=⟨zn_zero w,Nat.zero_le _,by unfold I64; decide⟩
theorem lk {wb : World} {q : Nat} {v : Int} (x : PB wb q v s a l c) (r : RB wb g L) (ht : t < L.length) (k : Below wb.heap.size wb w') :
  w'.cell? ⟨g,t * 3,none⟩ = some (.int .i64 (L[t]).v)∧w'.cell? ⟨q,0,none⟩ = some (.int .i64 v)∧Below wb.heap.size wb w':=by
 have x' : PB w' q v s a l c:=(k.block q x.lt).trans x
 exact ⟨(r.below k).c0 ht,x'.c0,k⟩


def lays (qs ps : List (Int × Int)) : List (Int × Int):=ps.foldl ins qs
theorem lays_snoc (qs ps : List (Int × Int)) (p : Int × Int) : lays qs (ps ++ [p]) = ins (lays qs ps) p:=by simp [lays]
theorem csum_lays (ps : List (Int × Int)) : ∀ (qs : List (Int × Int)) (v : Int),csum (lays qs ps) v = csum qs v + csum ps v:=by
 induction ps with
 | nil => intro qs v; simp [lays,csum]
 | cons p ps ih =>
  intro qs v
  have:=ih (ins qs p) v
  unfold lays at this ⊢
  rw [List.foldl_cons,this,csum_ins]
  simp only [csum]
  omega
theorem rise_lays (ps : List (Int × Int)) : ∀ {qs : List (Int × Int)},Rise qs→Rise (lays qs ps):=by
 induction ps with
 | nil => intro qs h; exact h
 | cons p ps ih => intro qs h; exact ih (rise_ins h p)
def nz (qs : List (Int × Int)) : List (Int × Int):=qs.filter (fun p => p.2 ≠ 0)
theorem nz_append (qs ps : List (Int × Int)) : nz (qs ++ ps) = nz qs ++ nz ps:=by simp [nz]
theorem csum_nz (qs : List (Int × Int)) (v : Int) : csum (nz qs) v = csum qs v:=by
 induction qs with
 | nil => rfl
 | cons q qs ih =>
  unfold nz at ih ⊢
  by_cases h : q.2 = 0
  ·rw [List.filter_cons_of_neg (by simpa using h),ih]
   simp only [csum,h]
   split <;> omega
  rw [List.filter_cons_of_pos (by simpa using h)]
  simp only [csum,ih]
theorem std_nz (h : Rise qs) : Std (nz qs):=by
 exact ⟨List.Pairwise.filter _ h,fun p hp => by simpa using (List.mem_filter.1 hp).2⟩

theorem tb_set0 {b : Nat} (h : TB w b ad n cp s a l c) (ad' : Option Addr) (n' cp' : Nat) : TB (w.setCell ⟨b,0,none⟩ (.slice ad' n' cp')) b ad' n' cp' s a l c:=heap_setCell_same _ b 0 _ _ _ h
theorem own_base {wo wr : World} (y : TB wo o none 0 0 s a l c) (h : wo.grownBy wr (some o)) (yr : TB wr o ad n cp s a l c) :
  ∃ w0,w0.heap.size = wo.heap.size∧Below w0.heap.size w0 wr∧∀ w',Below w0.heap.size w0 w'→wo.grownBy w' (some o)∧TB w' o ad n cp s a l c:=by
 have y0:=tb_set0 y ad n cp
 have hs:=gb_set wo o 0 (.slice ad n cp)
 have e : (wo.setCell ⟨o,0,none⟩ (.slice ad n cp)).heap.size = wo.heap.size:=by simp [World.setCell]
 refine ⟨wo.setCell ⟨o,0,none⟩ (.slice ad n cp),e,⟨h.os.trans hs.os.symm,h.tape.trans hs.tape.symm,h.output.trans hs.output.symm,by rw [e]; exact h.size,fun k hk => ?_⟩,fun w' hw => ⟨gb_below hs hw,y0.below hw⟩⟩
 rw [e] at hk
 by_cases hko : k = o
 ·subst hko; exact Eq.trans yr y0.symm
 exact (h.block k hk (by simpa using hko)).trans (hs.block k hk (by simpa using hko)).symm
theorem RS.grown (h : RS base w v n cap L) (hg : w.grownBy w' (some o)) (ho : o < base) : RS base w' v n cap L:=by
 rcases h with h | ⟨g,e,hb,hr,h⟩
 ·exact .inl h
 exact .inr ⟨g,e,hb,hr.grown hg o_m,h⟩

def Pn (w : World) (ad : Option Addr) (n : Nat) (ps : List (Int × Int)) (B : Nat) : Prop :=
 ps.length = n∧(n = 0 ∨ ∃ b off,ad = some ⟨b,off,none⟩∧b < w.heap.size∧∀ i (h : i < ps.length),∃ s a l c,w.cell? ⟨b,off + i * 3,none⟩ = some (.int .i64 (ps[i]).1)∧w.cell? ⟨b,off + i * 3 + 1,none⟩ = some (.bool s)∧w.cell? ⟨b,off + i * 3 + 2,none⟩ = some (.slice a l c)∧Zn w s a l c (ps[i]).2∧l≤B∧I64 (ps[i]).1)
theorem Pn.pr (h : Pn w ad n ps B) : Pr w ad n ps B:=by
 refine ⟨h.1,?_⟩
 rcases h.2 with h2 | ⟨b,off,e,hlt,h2⟩
 ·exact .inl h2
 refine .inr ⟨b,off,e,hlt,fun i hi => ?_⟩
 obtain ⟨s,a,l,c,e0,e1,e2,hz,hl,hv⟩:=h2 i hi
 exact ⟨s,a,l,c,e0,e1,e2,hz.zm,hl,hv⟩
theorem Pn.below (h : Pn w ad n ps B) (hb : Below w.heap.size w w') : Pn w' ad n ps B:=by
 refine ⟨h.1,?_⟩
 rcases h.2 with h2 | ⟨b,off,e,hlt,h2⟩
 ·exact .inl h2
 refine .inr ⟨b,off,e,Nat.lt_of_lt_of_le hlt hb.size,fun i hi => ?_⟩
 obtain ⟨s,a,l,c,e0,e1,e2,hr,hl,hv⟩:=h2 i hi
 exact ⟨s,a,l,c,(hb.cell (p:=⟨b,off + i * 3,none⟩) hlt).trans e0,(hb.cell (p:=⟨b,off + i * 3 + 1,none⟩) hlt).trans e1,(hb.cell (p:=⟨b,off + i * 3 + 2,none⟩) hlt).trans e2,hr.below hb,hl,hv⟩
theorem Pn.mono {B' : Nat} (h : Pn w ad n ps B) (hB : B≤B') : Pn w ad n ps B':=by
 refine ⟨h.1,?_⟩
 rcases h.2 with h2 | ⟨b,off,e,hlt,h2⟩
 ·exact .inl h2
 refine .inr ⟨b,off,e,hlt,fun i hi => ?_⟩
 obtain ⟨s,a,l,c,e0,e1,e2,hr,hl,hv⟩:=h2 i hi
 exact ⟨s,a,l,c,e0,e1,e2,hr,Nat.le_trans hl hB,hv⟩
theorem pn_nil (w : World) (ad : Option Addr) (B : Nat) : Pn w ad 0 [] B:=⟨rfl,.inl rfl⟩
theorem rs_pn (h : RS base w (.slice ad n cap) n cap L) (hok : Rok w B L) : Pn w ad n ((L.take n).map Raw.p) B:=by
 rcases h with ⟨e,h0,_,rfl⟩ | ⟨g,e,hb,hr,hl,hn,_⟩
 ·subst h0; exact ⟨by simp,.inl rfl⟩
 simp at e
 subst e
 refine ⟨by simp; omega,.inr ⟨g,0,rfl,hr.lt,fun i hi => ?_⟩⟩
 have hi' : i < L.length:=by simp at hi; omega
 have hx:=hok L[i] (List.getElem_mem hi')
 exact ⟨(L[i]).s,(L[i]).a,(L[i]).l,(L[i]).c,by simpa [Raw.p] using hr.c0 hi',by simpa using hr.c1 hi',by simpa using hr.c2 hi',by simpa [Raw.p] using hx.1,hx.2.1,by simpa [Raw.p] using hx.2.2⟩
theorem nk {wo : World} {p bp f : Nat} {u0 u1 u2 : Value} (x : TB wo p ad n cp s a l c) (hpo : p ≠ o) (g0 : wo.cell? ⟨bp,f + t * 3,none⟩ = some u0) (g1 : wo.cell? ⟨bp,f + t * 3 + 1,none⟩ = some u1) (g2 : wo.cell? ⟨bp,f + t * 3 + 2,none⟩ = some u2) (hb : bp < wo.heap.size) (hbo : bp ≠ o) (hg : wo.grownBy w' (some o)) :
  w'.cell? ⟨p,0,none⟩ = some (.slice ad n cp)∧w'.cell? ⟨bp,f + t * 3,none⟩ = some u0∧w'.cell? ⟨bp,f + t * 3 + 1,none⟩ = some u1∧w'.cell? ⟨bp,f + t * 3 + 2,none⟩ = some u2∧wo.grownBy w' (some o):=by
 have h : ∀ i,w'.cell? ⟨bp,i,none⟩ = wo.cell? ⟨bp,i,none⟩:=fun i => by
  have:=hg.block bp hb (by simpa using hbo)
  unfold World.cell?
  rw [this]
 exact ⟨(x.grown hg hpo).c0,(h _).trans g0,(h _).trans g1,(h _).trans g2,hg⟩

end Go.Proofs.YtcfmkjegolpgaaaGreatDoor

namespace Go.Proofs.YtcfmkjegolpgaaaGreatDoor
open Go.RowKit Go.Sort Go.Shelf
open Tm At

theorem PB.below9 {w w' : World} {b : Nat} {v : Int} {s : Bool} {a : Option Addr} {l c : Nat} (h : PB w b v s a l c) (hb : Below w.heap.size w w') : PB w' b v s a l c:=(hb.block b h.lt).trans h

theorem each_n {w : World} {ad : Option Addr} {n cp : Nat} {s : Bool} {a : Option Addr} {l c : Nat} {ps : List (Int × Int)} {k : Int} {B C kf : Nat} {lb : Array Value} {F : Int→Int} (eg : ∀ args w,(callFunc kf args).run Tryz.prog w = .ok (.enter kf args) w)
  (hf : ∀ w' s a l c z,Below w.heap.size w w'→Zm w' s a l c z→l≤B→Calls Tryz.prog kf (#[.agg #[.bool s,.slice a l c]] ++ lb) w' fun e w'' => ∃ s' a' l' c',e = .returned (.agg #[.bool s',.slice a' l' c'])∧Zn w'' s' a' l' c' (F z)∧Below w'.heap.size w' w''∧l'≤C)
  (hP : Pr w ad n ps B) (hz : Zm w s a l c k) (hl : l≤B) (hn : n≤268435456) (hC : C≤1099511627776) :
  Calls Tryz.prog 101 #[.agg #[.slice ad n cp,.bool s,.slice a l c],.func (.func kf) #[] lb] w fun e w' => ∃ ad' n' cp' s' a' l' c',e = .returned (.agg #[.slice ad' n' cp',.bool s',.slice a' l' c'])∧Pn w' ad' n' (eachP F ps) C∧Zn w' s' a' l' c' (F k)∧l'≤C∧n'≤n∧(∀ b off,ad' = some ⟨b,off,none⟩→w.heap.size≤b)∧Below w.heap.size w w':=by
 go_enter Tryz.func101,Tryz.ntmps101
 go_wp2_with fail
 have x:=(tb_new w ad n cp s a l c).below (below_alloc _ (.cells #[.slice none 0 0,.bool false,.slice none 0 0] 40))
 have y:=tb_new (w.alloc (.cells #[.slice ad n cp,.bool s,.slice a l c] 40)) none 0 0 false none 0 0
 have b0 : Below w.heap.size w ((w.alloc (.cells #[.slice ad n cp,.bool s,.slice a l c] 40)).alloc (.cells #[.slice none 0 0,.bool false,.slice none 0 0] 40)):=below_alloc' (below_alloc _ _) _
 rw [show (w.alloc (.cells #[.slice ad n cp,.bool s,.slice a l c] 40)).heap.size = w.heap.size + 1 from by simp] at y
 generalize (w.alloc (.cells #[.slice ad n cp,.bool s,.slice a l c] 40)).alloc (.cells #[.slice none 0 0,.bool false,.slice none 0 0] 40) = wb at *
 replace hP:=hP.below b0
 replace hz:=hz.below b0
 have hf2 : Hid (∀ w' s a l c z,Below wb.heap.size wb w'→Zm w' s a l c z→l≤B→Calls Tryz.prog kf (#[.agg #[.bool s,.slice a l c]] ++ lb) w' fun e w'' => ∃ s' a' l' c',e = .returned (.agg #[.bool s',.slice a' l' c'])∧Zn w'' s' a' l' c' (F z)∧Below w'.heap.size w' w''∧l'≤C):=(fun w' s a l c z h => hf w' s a l c z (grow_step h b0))
 clear hf
 generalize hp : w.heap.size = p at *
 replace b0 : Hid (Below w.heap.size w wb):=hp ▸ b0
 have hpr : Hid (w.heap.size = p∧p < p + 1):=⟨hp,by omega⟩
 clear hp
 generalize p + 1 = r at *
 obtain ⟨hps,hP⟩:=hP
 go_loopw [5,12] (fun v i wr => ∃ (t : Nat) (ad3 : Option Addr) (n3 cap3 : Nat) (L3 : List Raw),t≤n∧i = .int .i64 t∧v = .slice ad3 n3 cap3∧Hid (RS wb.heap.size wr (.slice ad3 n3 cap3) n3 cap3 L3)∧Hid (Rok wr C L3)∧Hid ((L3.take n3).map Raw.p = eachP F (ps.take t))∧n3≤t∧Hid (Below wb.heap.size wb wr)) (fun _ i _ => n - (intOf i).toNat)
 case atStart => exact ⟨0,none,0,0,[],Nat.zero_le _,rfl,rfl,.inl ⟨rfl,rfl,rfl,rfl⟩,(fun x hx => absurd hx (by simp)),(show _ = _ from rfl),by omega,Below.refl _ _⟩
 case round =>
  obtain ⟨t,ad3,n3,cap3,L3,ht,rfl,rfl,hR3,hok3,hea,hn3,kr⟩:=hrel
  by_cases htn : t < n
  ·rcases hP with hP | ⟨bp,op,rfl,hP⟩
   ·omega
   obtain ⟨s2,a2,l2,c2,e0,e1,e2,hz2,hl2,hv⟩:=(hP.below kr.out).2 t o_m
   have hstep : Hid (eachP F (ps.take (t + 1)) = eachP F (ps.take t) ++ if F (ps[t]).2 = 0 then [] else [((ps[t]).1,F (ps[t]).2)]):=(show _ = _ by rw [List.take_succ_eq_append_getElem (l:=ps) (i:=t) o_m,eachP_snoc])
   generalize ps[t] = pp at *
   obtain ⟨pv,pz⟩:=pp
   dsimp only at *
   have pb : PB (wr.alloc (.cells #[.int .i64 pv,.bool s2,.slice a2 l2 c2] 69)) wr.heap.size pv s2 a2 l2 c2:=pb_new wr pv s2 a2 l2 c2
   have ka:=below_alloc wr (.cells #[.int .i64 pv,.bool s2,.slice a2 l2 c2] 69)
   have kb:=hide (grow_step ka kr.out)
   have hcall:=hide (hf2.out _ s2 a2 l2 c2 pz kb.out (hz2.below ka) hl2)
   have hR4:=hide (hR3.out.below ka)
   have hok4:=hide (hok3.out.below ka)
   clear ka
   go_wp2_with fail
   refine hcall.out.mono ?_
   rintro e w5 ⟨s5,a5,l5,c5,rfl,hz5,k5,hl5⟩
   have kc:=hide (below_alloc w5 (.cells #[.bool s5,.slice a5 l5 c5] 37))
   have cb:=zb_new w5 s5 a5 l5 c5
   have k6:=hide (grow_step kc.out (grow_step k5 kb.out))
   have hz6:=hide (hz5.below kc.out)
   have pb6:=(pb.below9 k5).below9 kc.out
   have hR6:=hide ((hR4.out.below k5).below kc.out)
   have hok6:=hide ((hok4.out.below k5).below kc.out)
   clear k5 kb hz5 pb hR4 hok4 hcall hR3 hok3
   replace cb:=hide cb
   replace pb6:=hide pb6
   go_wp2_with fail
   refine (zsign_n hz6.out.zm o_m).mono ?_
   rintro e w7 ⟨rfl,k7⟩
   have cb7:=cb.out.below k7
   have pb7:=pb6.out.below9 k7
   have hz7:=hide (hz6.out.below k7)
   have hR7:=hide (hR6.out.below k7)
   have hok7:=hide (hok6.out.below k7)
   replace k7:=hide (grow_step k7 k6.out)
   clear hz6 hR6 hok6 k6 cb pb6 kc
   generalize w5.heap.size = qc at *
   generalize wr.heap.size = qp at *
   by_cases hz0 : F pz = 0
   ·have hea' : Hid ((L3.take n3).map Raw.p = eachP F (ps.take (t + 1))):=(show _ = _ by rw [hstep.out,hea.out]; simp [hz0])
    rw [hz0,show cmpI 0 0 = 0 from rfl]
    go_wp2_with fail
    exact ⟨⟨t + 1,ad3,n3,cap3,L3,by omega,by go_num,rfl,hR7,hok7,hea',by omega,k7⟩,by simp [intOf]; omega⟩
   have hc : cmpI (F pz) 0 ≠ 0:=by unfold cmpI; split <;> (try split) <;> omega
   generalize cmpI (F pz) 0 = cz at *
   have t0:=pb7.c0
   have u0:=cb7.c0
   have u1:=cb7.c1
   have hcq:=cb7.lt
   have hpq:=pb7.lt
   have kz:=below_alloc w7 (.cells #[.int .i64 pv,.bool s5,.slice a5 l5 c5] 69)
   have happ:=hide (run_append_rs (w0:=wb) (hR7.out.below kz) (grow_step kz k7.out) ⟨pv,s5,a5,l5,c5,F pz⟩ ⟨w7.heap.size,0,none⟩ (v3_new w7 pv s5 a5 l5 c5) o_m)
   replace kz:=hide kz
   go_wp2_with (at_builtin; refine wpList_append_run rfl _ _ 38 rfl _ _ rfl rfl _ (happ.out _) ?_; rintro v5 w8 ⟨cap5,L5,hR5,htk,hmem,hb5,hg5, -⟩; obtain ⟨ad5,rfl⟩:=hR5.row; replace hR5:=hide hR5; replace hmem:=hide hmem; replace hb5:=hide hb5; replace hg5:=hide hg5; replace htk:=hide htk)
   have ok5 : Hid (Rok w8 C L5):=fun y hy => by
    rcases hmem.out y hy with h | rfl | rfl
    ·exact ⟨(hR7.out.below kz.out).zn hg5.out ((hok7.out y h).1.below kz.out),(hok7.out y h).2⟩
    ·exact ⟨(hR7.out.below kz.out).zn hg5.out (hz7.out.below kz.out),hl5,hv⟩
    exact zr_ok _ _
   have hea' : Hid ((L5.take (n3 + 1)).map Raw.p = eachP F (ps.take (t + 1))):=(show _ = _ by rw [htk.out,List.map_append,hea.out,hstep.out]; simp [Raw.p,hz0])
   exact ⟨⟨t + 1,ad5,n3 + 1,cap5,L5,by omega,by go_num,rfl,hR5,ok5,hea',by omega,hb5⟩,by simp [intOf]; omega⟩
  obtain rfl : t = n:=by omega
  rw [List.take_of_length_le (Nat.le_of_eq hps)] at hea
  have xr:=x.below kr.out
  have yr:=y.below kr.out
  have x1:=xr.c1
  have x2:=xr.c2
  have hcall:=hide (hf2.out wr s a l c k kr.out (hz.below kr.out) hl)
  go_wp2_with fail
  refine hcall.out.mono ?_
  rintro e w5 ⟨s5,a5,l5,c5,rfl,hz5,k5,hl5⟩
  have y5:=yr.below k5
  have y0:=y5.c0
  have y1:=y5.c1
  have y2:=y5.c2
  have y3:=y5.f 0
  have y4:=y5.f 1
  have y6:=y5.f 2
  have g:=tb_set w5 r (.slice ad3 n3 cap3) (.bool s5) (.slice a5 l5 c5)
  have hzf:=hide (hz5.grownU g (tb_noU y5))
  have hRf:=hide ((hR3.out.below k5).grown g y.lt)
  have hokf:=hide ((hok3.out.below k5).grownU g (tb_noU y5))
  have kf:=hide (below_grown (grow_step (grow_step k5 kr.out) b0.out) g (by have:=hpr.out; omega))
  clear g k5 hcall x1 x2
  go_wp2
  refine bodyPost_ret (results_cell_row rfl _ _ r 40 _ (0,0) _ rfl (tb_fin y5 ad3 n3 cap3 s5 a5 l5 c5) Tryz.underlying40 rfl k_f) rfl ?_
  have hpn:=rs_pn hRf.out hokf.out
  rw [hea.out] at hpn
  have hnew : ∀ b off,ad3 = some ⟨b,off,none⟩→w.heap.size≤b:=fun b off e => by
   rcases hRf.out with ⟨h1,_⟩ | ⟨g,h1,hg,_⟩
   ·simp at h1
    rw [h1.1] at e
    cases e
   simp at h1
   rw [h1] at e
   simp at e
   have:=b0.out.size
   omega
  exact ⟨ad3,n3,cap3,s5,a5,l5,c5,by simp,hpn,hzf.out,hl5,by omega,hnew,kf.out⟩
end Go.Proofs.YtcfmkjegolpgaaaGreatDoor

namespace Go.Proofs.YtcfmkjegolpgaaaGreatDoor.Low
open Go.RowKit Go.Sort Go.Shelf
open Tm
open Lw (Lo)

variable {F cap base n Fw b off B B' l c cp : Nat} {w w' : World} {s : Bool} {ad a : Option Addr} {v : Value} {L : List Raw} {ps : List (Int × Int)} {k : Int}
theorem Zm.grownU {len : Nat} {z : Int} {m : Nat} (h : Zm F w s ad len cap z) (hg : w.grownBy w' (some m)) (hm : NoU w m) : Zm F w' s ad len cap z:=⟨h.1.grownU hg hm,h.2.imp id (fun h => Nat.le_trans h hg.size)⟩
theorem Zn.grownU {len : Nat} {z : Int} {m : Nat} (h : Zn F w s ad len cap z) (hg : w.grownBy w' (some m)) (hm : NoU w m) : Zn F w' s ad len cap z:=⟨h.1.grownU hg hm,h.2⟩
theorem zn_zero (w : World) : Zn F w false none 0 0 0:=⟨Go.Proofs.YtcfmkjegolpgaaaGreatDoor.zn_zero w,.inl rfl⟩
theorem rs_zn (h : RS base w v n cap L) (hg : w.grownBy w' v.ownBlock) {s : Bool} {a : Option Addr} {l c : Nat} {z : Int} (hz : Zn F w s a l c z) : Zn F w' s a l c z:=⟨h.zn hg hz.1,hz.2⟩
theorem rs_zm (h : RS base w v n cap L) (hg : w.grownBy w' v.ownBlock) {s : Bool} {a : Option Addr} {l c : Nat} {z : Int} (hz : Zm F w s a l c z) : Zm F w' s a l c z:=⟨h.zm hg hz.1,hz.2.imp id (fun h => Nat.le_trans h hg.size)⟩
def okL (F : Nat) (w : World) (B : Nat) (x : Raw) : Prop:=Zn F w x.s x.a x.l x.c x.z∧x.l≤B∧I64 x.v
def PA (Fw : Nat) (w : World) (b off : Nat) (p : Int × Int) (B : Nat) : Prop :=
 ∃ s a l c,w.cell? ⟨b,off,none⟩ = some (.int .i64 p.1)∧w.cell? ⟨b,off + 1,none⟩ = some (.bool s)∧w.cell? ⟨b,off + 2,none⟩ = some (.slice a l c)∧Zm Fw w s a l c p.2∧l≤B∧I64 p.1
def PL (Fw : Nat) (w : World) (b off : Nat) (ps : List (Int × Int)) (B : Nat) : Prop:=b < w.heap.size∧∀ i (h : i < ps.length),PA Fw w b (off + i * 3) ps[i] B
def Pr (Fw : Nat) (w : World) (ad : Option Addr) (n : Nat) (ps : List (Int × Int)) (B : Nat) : Prop:=ps.length = n∧(n = 0 ∨ ∃ b off,ad = some ⟨b,off,none⟩∧PL Fw w b off ps B)
theorem PA.below {p : Int × Int} (h : PA Fw w b off p B) (hb : Below w.heap.size w w') (hlt : b < w.heap.size) : PA Fw w' b off p B:=by
 obtain ⟨s,a,l,c,h1,h2,h3,h4,h5⟩:=h
 exact ⟨s,a,l,c,(hb.cell (p:=⟨b,off,none⟩) hlt).trans h1,(hb.cell (p:=⟨b,off + 1,none⟩) hlt).trans h2,(hb.cell (p:=⟨b,off + 2,none⟩) hlt).trans h3,h4.below hb,h5⟩
theorem PL.below (h : PL Fw w b off ps B) (hb : Below w.heap.size w w') : PL Fw w' b off ps B :=
 ⟨Nat.lt_of_lt_of_le h.1 hb.size,fun i hi => (h.2 i hi).below hb h.1⟩
theorem Pr.below (h : Pr Fw w ad n ps B) (hb : Below w.heap.size w w') : Pr Fw w' ad n ps B:=by
 obtain ⟨h1,h2⟩:=h
 refine ⟨h1,?_⟩
 rcases h2 with h2 | ⟨b,off,h2,h3⟩
 ·exact .inl h2
 exact .inr ⟨b,off,h2,h3.below hb⟩
theorem Pr.mono (h : Pr Fw w ad n ps B) (hB : B≤B') : Pr Fw w ad n ps B':=by
 obtain ⟨h1,h2⟩:=h
 refine ⟨h1,?_⟩
 rcases h2 with h2 | ⟨b,off,h2,h3,h4⟩
 ·exact .inl h2
 refine .inr ⟨b,off,h2,h3,fun i hi => ?_⟩
 obtain ⟨s,a,l,c,g1,g2,g3,g4,g5,g6⟩:=h4 i hi
 exact ⟨s,a,l,c,g1,g2,g3,g4,Nat.le_trans g5 hB,g6⟩
def Pn (Fw : Nat) (w : World) (ad : Option Addr) (n : Nat) (ps : List (Int × Int)) (B : Nat) : Prop :=
 ps.length = n∧(n = 0 ∨ ∃ b off,ad = some ⟨b,off,none⟩∧b < w.heap.size∧∀ i (h : i < ps.length),∃ s a l c,w.cell? ⟨b,off + i * 3,none⟩ = some (.int .i64 (ps[i]).1)∧w.cell? ⟨b,off + i * 3 + 1,none⟩ = some (.bool s)∧w.cell? ⟨b,off + i * 3 + 2,none⟩ = some (.slice a l c)∧Zn Fw w s a l c (ps[i]).2∧l≤B∧I64 (ps[i]).1)
theorem Pn.pr (h : Pn Fw w ad n ps B) : Pr Fw w ad n ps B:=by
 refine ⟨h.1,?_⟩
 rcases h.2 with h2 | ⟨b,off,e,hlt,h2⟩
 ·exact .inl h2
 refine .inr ⟨b,off,e,hlt,fun i hi => ?_⟩
 obtain ⟨s,a,l,c,e0,e1,e2,hz,hl,hv⟩:=h2 i hi
 exact ⟨s,a,l,c,e0,e1,e2,hz.zm,hl,hv⟩
theorem Pn.below (h : Pn Fw w ad n ps B) (hb : Below w.heap.size w w') : Pn Fw w' ad n ps B:=by
 refine ⟨h.1,?_⟩
 rcases h.2 with h2 | ⟨b,off,e,hlt,h2⟩
 ·exact .inl h2
 refine .inr ⟨b,off,e,Nat.lt_of_lt_of_le hlt hb.size,fun i hi => ?_⟩
 obtain ⟨s,a,l,c,e0,e1,e2,hr,hl,hv⟩:=h2 i hi
 exact ⟨s,a,l,c,(hb.cell (p:=⟨b,off + i * 3,none⟩) hlt).trans e0,(hb.cell (p:=⟨b,off + i * 3 + 1,none⟩) hlt).trans e1,(hb.cell (p:=⟨b,off + i * 3 + 2,none⟩) hlt).trans e2,hr.below hb,hl,hv⟩
theorem Pn.mono (h : Pn Fw w ad n ps B) (hB : B≤B') : Pn Fw w ad n ps B':=by
 refine ⟨h.1,?_⟩
 rcases h.2 with h2 | ⟨b,off,e,hlt,h2⟩
 ·exact .inl h2
 refine .inr ⟨b,off,e,hlt,fun i hi => ?_⟩
 obtain ⟨s,a,l,c,e0,e1,e2,hr,hl,hv⟩:=h2 i hi
 exact ⟨s,a,l,c,e0,e1,e2,hr,Nat.le_trans hl hB,hv⟩
theorem pn_nil (w : World) (ad : Option Addr) (B : Nat) : Pn Fw w ad 0 [] B:=⟨rfl,.inl rfl⟩
def Rok (F : Nat) (w : World) (B : Nat) (L : List Raw) : Prop:=∀ x ∈ L,okL F w B x
theorem Rok.below (h : Rok F w B L) (hb : Below w.heap.size w w') : Rok F w' B L:=fun x hx => ⟨(h x hx).1.below hb,(h x hx).2⟩
theorem Rok.grownU (h : Rok F w B L) (hg : w.grownBy w' (some b)) (hb : NoU w b) : Rok F w' B L:=fun x hx => ⟨(h x hx).1.grownU hg hb,(h x hx).2⟩
theorem Rok.mono (h : Rok F w B L) (hB : B≤B') : Rok F w B' L:=fun x hx => ⟨(h x hx).1,Nat.le_trans (h x hx).2.1 hB,(h x hx).2.2⟩
theorem zr_ok (w : World) (B : Nat) : okL F w B zr:=⟨zn_zero w,Nat.zero_le _,by unfold I64; decide⟩
theorem PA.old {p : Int × Int} (h : PA F w b off p B) : Go.Proofs.YtcfmkjegolpgaaaGreatDoor.PA w b off p B:=by
 obtain ⟨s,a,l,c,h1,h2,h3,h4,h5⟩:=h
 exact ⟨s,a,l,c,h1,h2,h3,h4.old,h5⟩
theorem Pr.old (h : Pr F w ad n ps B) : Go.Proofs.YtcfmkjegolpgaaaGreatDoor.Pr w ad n ps B:=by
 refine ⟨h.1,?_⟩
 rcases h.2 with h2 | ⟨b,off,e,h2⟩
 ·exact .inl h2
 exact .inr ⟨b,off,e,h2.1,fun i hi => (h2.2 i hi).old⟩
theorem Pr.mk (h : Go.Proofs.YtcfmkjegolpgaaaGreatDoor.Pr w ad n ps B) (hF : F≤w.heap.size) : Pr F w ad n ps B:=by
 refine ⟨h.1,?_⟩
 rcases h.2 with h2 | ⟨b,off,e,h2⟩
 ·exact .inl h2
 refine .inr ⟨b,off,e,h2.1,fun i hi => ?_⟩
 obtain ⟨s,a,l,c,h1,h2,h3,h4,h5⟩:=h2.2 i hi
 exact ⟨s,a,l,c,h1,h2,h3,.mk h4 hF,h5⟩
theorem rs_pr (h : RS base w (.slice ad n cap) n cap L) (hok : Rok Fw w B L) : Pr Fw w ad n ((L.take n).map Raw.p) B:=by
 rcases h with ⟨e,h0,_,rfl⟩ | ⟨g,e,hb,hr,hl,hn,_⟩
 ·subst h0; exact ⟨by simp,.inl rfl⟩
 simp at e
 subst e
 refine ⟨by simp; omega,.inr ⟨g,0,rfl,hr.lt,fun i hi => ?_⟩⟩
 have hi' : i < L.length:=by simp at hi; omega
 have hx:=hok L[i] (List.getElem_mem hi')
 exact ⟨(L[i]).s,(L[i]).a,(L[i]).l,(L[i]).c,by simpa [Raw.p] using hr.c0 hi',by simpa using hr.c1 hi',by simpa using hr.c2 hi',by simpa [Raw.p] using hx.1.zm,hx.2.1,by simpa [Raw.p] using hx.2.2⟩
theorem rs_pn (h : RS base w (.slice ad n cap) n cap L) (hok : Rok Fw w B L) : Pn Fw w ad n ((L.take n).map Raw.p) B:=by
 rcases h with ⟨e,h0,_,rfl⟩ | ⟨g,e,hb,hr,hl,hn,_⟩
 ·subst h0; exact ⟨by simp,.inl rfl⟩
 simp at e
 subst e
 refine ⟨by simp; omega,.inr ⟨g,0,rfl,hr.lt,fun i hi => ?_⟩⟩
 have hi' : i < L.length:=by simp at hi; omega
 have hx:=hok L[i] (List.getElem_mem hi')
 exact ⟨(L[i]).s,(L[i]).a,(L[i]).l,(L[i]).c,by simpa [Raw.p] using hr.c0 hi',by simpa using hr.c1 hi',by simpa using hr.c2 hi',by simpa [Raw.p] using hx.1,hx.2.1,by simpa [Raw.p] using hx.2.2⟩
def TW (Fw : Nat) (w : World) (ad : Option Addr) (n : Nat) (s : Bool) (a : Option Addr) (l c : Nat) (ps : List (Int × Int)) (k : Int) (B : Nat) : Prop:=Pr Fw w ad n ps B∧Zm Fw w s a l c k∧l≤B
theorem TW.below (h : TW Fw w ad n s a l c ps k B) (hb : Below w.heap.size w w') : TW Fw w' ad n s a l c ps k B:=⟨h.1.below hb,h.2.1.below hb,h.2.2⟩
theorem laid_n {w0 : World} {pv : Int} {pz : Int} (hR : RS w0.heap.size w v n cap L) (hb : Below w0.heap.size w0 w) (hok : Rok Fw w B L) (hz : Zm Fw w s a l c pz) (hl : l≤B) (hv : I64 pv) (hn : n≤268435456) (hB : B≤268435456) :
  Calls Tryz.prog 158 #[v,.agg #[.int .i64 pv,.bool s,.slice a l c]] w fun e w' => ∃ ad' n' cap' L',e = .returned (.slice ad' n' cap')∧RS w0.heap.size w' (.slice ad' n' cap') n' cap' L'∧Rok Fw w' (B + 1) L'∧Ins L n L' n' pv pz∧n'≤n + 1∧Below w0.heap.size w0 w':=by
 obtain ⟨ad,rfl⟩:=hR.row
 go_enter Tryz.func158,Tryz.ntmps158
 go_wp2_with fail
 have x:=pb_new w pv s a l c
 have ka:=below_alloc w (.cells #[.int .i64 pv,.bool s,.slice a l c] 69)
 have hg0 : ∀ g,ad = some ⟨g,0,none⟩→RB w g L:=fun g e => by
  rcases hR with ⟨h,_⟩ | ⟨g',h,_,hr,_⟩
  ·simp at h; rw [h.1] at e; cases e
  simp at h; rw [h] at e; cases e; exact hr
 have hgw : ∀ g,ad = some ⟨g,0,none⟩→RB (w.alloc (.cells #[.int .i64 pv,.bool s,.slice a l c] 69)) g L:=fun g e => (hg0 g e).below ka
 have hnz : 0 < n→∃ g,ad = some ⟨g,0,none⟩∧n≤L.length∧w0.heap.size≤g∧g < w.heap.size∧L.length = cap∧cap≤maxLen:=fun h0 => by
  rcases hR with ⟨_,h,_⟩ | ⟨g',h,hg',hr',hl',hnc,hcm⟩
  ·omega
  simp at h; exact ⟨g',h,by omega,hg',hr'.lt,hl',hcm⟩
 have hb1:=hide (grow_step ka hb)
 have hok1:=hok.below ka
 have hz1:=hz.below ka
 have hqo0 : some w.heap.size ≠ (Value.slice ad n cap).ownBlock:=by
  rcases hR with ⟨h,_⟩ | ⟨g',h,_,hr,_⟩
  ·rw [h]; simp [Value.ownBlock]
  have:=hr.lt; rw [h]; simp [Value.ownBlock]; omega
 have hnL0 : n≤L.length:=by
  rcases hR with ⟨_,h,_⟩ | ⟨g',h,_,_,h1,h2,_⟩
  ·omega
  omega
 replace hqo0:=hide hqo0
 replace hg0:=hide hg0
 replace hgw:=hide hgw
 replace hnz:=hide hnz
 have hR1:=hide (hR.below ka)
 generalize w.alloc (.cells #[.int .i64 pv,.bool s,.slice a l c] 69) = wb at *
 generalize w.heap.size = q at *
 clear ka
 go_loopw [5] (fun i wr => ∃ t : Nat,t≤n∧i = .int .i64 t∧Hid (∀ i (h : i < L.length),i < t→(L[i]).v < pv)∧Below wb.heap.size wb wr) (fun i _ => n - (intOf i).toNat)
 case atStart => exact ⟨0,Nat.zero_le _,rfl,fun i _ h => absurd h o_m,Below.refl _ _⟩
 case round =>
  obtain ⟨t,ht,rfl,hless,kr⟩:=hrel
  by_cases htn : t < n
  ·obtain ⟨g,rfl,hnL,hgb,hgq,hLc,hcm⟩:=hnz.out o_m
   have r:=hgw.out g rfl
   have htL : t < L.length:=by omega
   have hkr:=hide kr
   go_wp2_with fail
   go_region_held3 (fun w' => w'.cell? ⟨g,t * 3,none⟩ = some (.int .i64 (L[t]).v)∧w'.cell? ⟨q,0,none⟩ = some (.int .i64 pv)∧Below wb.heap.size wb w')
    ((refine lk x r htL ?_; (with_reducible repeat' first | exact Below.refl _ _ | assumption | refine grow_step (by assumption) ?_ | refine grow_drew ?_ | refine grow_alloc ?_ _ | refine grow_drewN ?_ _)))
    (fail)
   rename_i hH
   have kH:=hH.2.2
   clear hH kr
   by_cases hlt : (L[t]).v < pv
   ·have hless' : Hid (∀ i (h : i < L.length),i < t + 1→(L[i]).v < pv):=fun i h hi => by
     by_cases e : i = t
     ·subst e; exact hlt
     exact hless.out i h o_m
    go_wp2_with fail
    exact ⟨⟨t + 1,by omega,by go_num,hless',kH⟩,by simp [intOf]; omega⟩
   go_wp2_with fail
   go_region_held3 (fun w' => w'.cell? ⟨g,t * 3,none⟩ = some (.int .i64 (L[t]).v)∧w'.cell? ⟨q,0,none⟩ = some (.int .i64 pv)∧Below wb.heap.size wb w')
    ((refine lk x r htL ?_; (with_reducible repeat' first | exact Below.refl _ _ | assumption | refine grow_step (by assumption) ?_ | refine grow_drew ?_ | refine grow_alloc ?_ _ | refine grow_drewN ?_ _)))
    (fail)
   rename_i hH
   have kH2:=hH.2.2
   clear hH kH
   by_cases heq : (L[t]).v = pv
   ·go_wp2_with fail
    generalize wr.drew.drew = wr2 at *
    have x2 : PB wr2 q pv s a l c:=(kH2.block q x.lt).trans x
    have r2:=r.below kH2
    have hok2:=hok1.below kH2
    have hz2:=hz1.below kH2
    have hqg : q ≠ g:=by omega
    have hzt:=(hok2 L[t] (List.getElem_mem htL)).1
    have hlt':=(hok2 L[t] (List.getElem_mem htL)).2.1
    have kd:=grow_drew (Below.refl wr2.heap.size wr2)
    have hd : wr2.grownBy wr2.drew (some g):=⟨rfl,rfl,rfl,Nat.le_refl _,fun _ _ _ => rfl⟩
    have e1:=r2.c1 htL
    have e2:=r2.c2 htL
    refine wp_region_held_drew (S:=(fun w' => w'.cell? ⟨q,0,none⟩ = some (.int .i64 pv)∧w'.cell? ⟨q,1,none⟩ = some (.bool s)∧w'.cell? ⟨q,2,none⟩ = some (.slice a l c)∧wr2.grownBy w' (some g))) k_f (pk x2 hqg hd) (fun hHeld => ?_)
    show wpAnyH _ _ _ _ _ 13 _ _ _
    refine tkz 0 36 ?_
    (try simp only [pz])
    refine tkz 1 37 ?_
    (try simp only [pz])
    refine tkz 2 38 ?_
    (try simp only [pz])
    refine tkz 3 39 ?_
    (try simp only [pz])
    refine tkz 7 43 ?_
    (try simp only [pz])
    refine tkz 8 44 ?_
    (try simp only [pz])
    refine ryz 4 (some 40) (fun K hK => ?_) ?_
    ·go_simp
     refine hK.out _ _ ?_ ?_
     ·(try dsimp only); (refine pk x2 hqg ?_; assumption)
     clear hK K hHeld; intro hHeld
     (try simp only [pz])
     refine tkz 5 41 ?_
     (try simp only [pz])
     refine ryz 6 (some 42) (fun K hK => ?_) ?_
     ·go_simp
      refine hK.out _ _ ?_ ?_
      ·(try dsimp only); (refine pk x2 hqg ?_; assumption)
      clear hK K hHeld; intro hHeld
      (try simp only [pz])
      refine ryz 9 (some 45) (fun K hK => ?_) ?_
      ·go_simp
       go_at_call 122; refine (radd2_n (Zm.below hzt.zm kd) (Zm.below hz2 kd) o_m o_m).mono ?_; rintro e wA ⟨sA,aA,lA,cA,rfl,hzA,kA,hlA⟩; have hgA:=gb_below hd kA; have rA:=(r2.below kd).below kA; have uA1:=rA.c1 htL; have uA2:=rA.c2 htL; have uA3:=rA.f (t * 3 + 1); have uA4:=rA.f (t * 3 + 2); have hg2 : wr2.grownBy ((wA.setCell ⟨g,t * 3 + 1,none⟩ (.bool sA)).setCell ⟨g,t * 3 + 2,none⟩ (.slice aA lA cA)) (some g):=gb_trans (gb_trans hgA (gb_set _ _ _ _)) (gb_set _ _ _ _)
       (try go_wp2_with fail)
       refine hK.out _ _ ?_ ?_
       ·(try dsimp only); (refine pk x2 hqg ?_; assumption)
       clear hK K hHeld; intro hHeld
       (try simp only [pz])
       refine ryz 10 (some 46) (fun K hK => ?_) ?_
       ·go_simp
        refine hK.out _ _ ?_ ?_
        ·(try dsimp only); (refine pk x2 hqg ?_; assumption)
        clear hK K hHeld; intro hHeld
        (try simp only [pz])
        refine tkz 11 47 ?_
        (try simp only [pz])
        refine ryz 12 none (fun K hK => ?_) ?_
        ·go_simp
         refine hK.out _ _ ?_ ?_
         ·(try dsimp only); (refine pk x2 hqg ?_; assumption)
         clear hK K hHeld; intro hHeld
         (try simp only [pz])
         refine wpAnyH_done k_f ?_ _
         (have r3:=rb_set2 rA htL ⟨(L[t]).v,sA,aA,lA,cA,(L[t]).z + pz⟩ rfl; have hA3 : Rok Fw _ (B + 1) (L.set t ⟨(L[t]).v,sA,aA,lA,cA,(L[t]).z + pz⟩):=(fun y hy => (List.mem_or_eq_of_mem_set hy).elim (fun h => ((hok2.mono (Nat.le_succ B)).grownU hg2 r2.noU) y h) (fun h => h.symm ▸ ⟨hzA.grownU (gb_trans (gb_set wA g (t * 3 + 1) (.bool sA)) (gb_set _ g (t * 3 + 2) (.slice aA lA cA))) rA.noU,(by show lA≤B + 1; omega),(hok2 L[t] (List.getElem_mem htL)).2.2⟩)); have hb3:=hide (below_grown (grow_step kH2 hb1.out) hg2 hgb); have hins:=hide (set_ins (y:=⟨(L[t]).v,sA,aA,lA,cA,(L[t]).z + pz⟩) (pz:=pz) htn hnL hless.out heq heq rfl); clear hg2 hgA hd kd kA uA1 uA2 uA3 uA4 hzA rA e1 e2 hHeld; go_wp2; go_ret; exact ⟨some ⟨g,0,none⟩,n,cap,rfl,_,.inr ⟨g,rfl,hgb,r3,(by simpa using hLc),o_m,hcm⟩,hA3,hins,o_m,hb3.out⟩)
        exact AllReadyH.nil
       exact AllReadyH.nil
      exact AllReadyH.nil
     exact AllReadyH.nil
    exact AllReadyH.nil
   have kT:=kH2
   generalize wr.drew.drew = wT at *
   have hR2:=hR1.out.below kT
   have hb2:=hide (grow_step kT hb1.out)
   have hok2:=hok1.below kT
   have hz2:=hz1.below kT
   have x2 : PB wT q pv s a l c:=(kT.block q x.lt).trans x
   have kz:=below_alloc wT (.cells #[.int .i64 0,.bool false,.slice none 0 0] 69)
   have happ:=run_append_rs (hR2.below kz) (grow_step kz hb2.out) zr ⟨wT.heap.size,0,none⟩ (v3_new wT 0 false none 0 0) o_m
   replace happ:=hide happ
   have x2l:=x2.lt
   replace kz:=hide kz
   go_wp2_with (at_builtin; refine wpList_append_run rfl _ _ 38 rfl _ _ rfl rfl _ (happ.out _) ?_; rintro v3 w3 ⟨cap3,L3,hR3,htk,hmem,hb3,hg3,hown3⟩)
   rcases hR3 with ⟨_,h,_⟩ | ⟨g3,rfl,hg3b,r3,hl3,hn3,hc3⟩
   ·omega
   have hq3 : q ≠ g3:=by
    rcases hown3 with h | h
    ·simp [Value.ownBlock] at h; omega
    simp [Value.ownBlock] at h; omega
   have hqo : some q ≠ (Value.slice (some ⟨g,0,none⟩) n cap).ownBlock:=by simp [Value.ownBlock]; omega
   have x3 : PB w3 q pv s a l c:=(hg3.block q (Nat.lt_of_lt_of_le x2l kz.out.size) hqo).trans ((kz.out.block q x2l).trans x2)
   have hz3:=rs_zm (hR2.below kz.out) hg3 (hz2.below kz.out)
   have hok3 : Rok Fw w3 B L3:=fun y hy => by
    rcases hmem y hy with h | rfl | rfl
    ·exact ⟨rs_zn (hR2.below kz.out) hg3 ((hok2 y h).1.below kz.out),(hok2 y h).2⟩
    ·exact zr_ok _ _
    exact zr_ok _ _
   have kd:=grow_drew (Below.refl w3.heap.size w3)
   have hcopy:=run_copy_rb (w:=w3.drew) (g:=g3) (d:=t + 1) (s:=t) (m:=n - t) (dcap:=cap3 - (t + 1)) (scap:=cap3 - t) (ls:=n + 1 - t) (ld:=n - t) (r3.below kd) o_m o_m (by show n - t = min (n + 1 - t) (n - t); omega) 3
   have r4 : RB (w3.drew.setRow g3 (flat (L3.take (t + 1) ++ (L3.drop t).take (n - t) ++ L3.drop (t + 1 + (n - t)))).toArray) g3 (L3.take (t + 1) ++ (L3.drop t).take (n - t) ++ L3.drop (t + 1 + (n - t))):=setRow_heap w3.drew g3 _ _ _ _ (r3.below kd)
   have hg4 : w3.grownBy (w3.drew.setRow g3 (flat (L3.take (t + 1) ++ (L3.drop t).take (n - t) ++ L3.drop (t + 1 + (n - t)))).toArray) (some g3):=⟨rfl,rfl,rfl,by simp,fun k _ hk => setRow_other w3.drew g3 k _ (fun e => hk (by rw [e]))⟩
   have hm4 : ∀ y ∈ L3.take (t + 1) ++ (L3.drop t).take (n - t) ++ L3.drop (t + 1 + (n - t)),y ∈ L3:=fun y hy => by
    rcases List.mem_append.1 hy with h | h
    ·rcases List.mem_append.1 h with h | h
     ·exact List.mem_of_mem_take h
     exact List.mem_of_mem_drop (List.mem_of_mem_take h)
    exact List.mem_of_mem_drop h
   have hok4 : Rok Fw _ B (L3.take (t + 1) ++ (L3.drop t).take (n - t) ++ L3.drop (t + 1 + (n - t))):=fun y hy => (hok3.grownU hg4 r3.noU) y (hm4 y hy)
   have hz4:=hz3.grownU hg4 r3.noU
   have x4 : PB _ q pv s a l c:=(hg4.block q x3.lt (by simpa using hq3)).trans x3
   have hb4:=hide (below_grown hb3 hg4 hg3b)
   have hlen4 : (L3.take (t + 1) ++ (L3.drop t).take (n - t) ++ L3.drop (t + 1 + (n - t))).length = cap3:=by simp; omega
   have hlay:=hide (fun y => lay_take (t:=t) (y:=y) htk (show (L.take n).length = n by simp; omega) o_m)
   clear hok3 hz3 x3 hm4 hg4 hg3 hb3 hown3 hqo
   have b1 : (0 : Int)≤(t : Int) + 1∧(t : Int) + 1≤(n : Int) + 1∧(n : Int) + 1≤cap3∧(t : Int)≤(n : Int) + 1:=by omega
   obtain ⟨b1,b2,b3,b4⟩:=b1
   have b5 : IntKind.i64.wrap ((t : Int) + 1) = (t : Int) + 1:=by simp [IntKind.wrap,IntKind.bits,IntKind.signed]; omega
   go_region_held3 (fun _ => True) (trivial) (fail)
   clear hcopy kd r3
   unfold lay at hlay
   rw [← List.append_assoc]
   generalize hL4 : L3.take (t + 1) ++ (L3.drop t).take (n - t) ++ L3.drop (t + 1 + (n - t)) = L4 at *
   generalize w3.drew.setRow g3 (flat L4).toArray = w4 at *
   go_wp2_with fail
   have hfin : Hid (∀ h : t < (L.take n).length,pv≤((L.take n)[t]).v∧((L.take n)[t]).v ≠ pv):=fun h => by
    rw [List.getElem_take]
    exact ⟨by omega,heq⟩
   have htL4 : t < L4.length:=by omega
   have kd:=grow_drew (Below.refl w4.heap.size w4)
   have hd : w4.grownBy w4.drew (some g3):=⟨rfl,rfl,rfl,Nat.le_refl _,fun _ _ _ => rfl⟩
   have b6 : (t : Int) < (n : Int) + 1:=by omega
   go_region_held3 (fun w' => w'.cell? ⟨q,0,none⟩ = some (.int .i64 pv)∧w'.cell? ⟨q,1,none⟩ = some (.bool s)∧w'.cell? ⟨q,2,none⟩ = some (.slice a l c)∧w4.grownBy w' (some g3))
    ((refine pk x4 hq3 ?_; assumption))
    ((go_at_call 135; refine (rnorm_n (Zm.below hz4 kd) o_m).mono ?_; rintro e wA ⟨sA,aA,lA,cA,rfl,hzA,kA,hlA⟩; have hgA:=gb_below hd kA; have rA:=(r4.below kd).below kA; have uA0:=rA.c0 htL4; have uA1:=rA.c1 htL4; have uA2:=rA.c2 htL4; have uA3:=rA.f (t * 3); have uA4:=rA.f (t * 3 + 1); have uA5:=rA.f (t * 3 + 2); have hg2 : w4.grownBy (((wA.setCell ⟨g3,t * 3,none⟩ (.int .i64 pv)).setCell ⟨g3,t * 3 + 1,none⟩ (.bool sA)).setCell ⟨g3,t * 3 + 2,none⟩ (.slice aA lA cA)) (some g3):=gb_trans (gb_trans (gb_trans hgA (gb_set _ _ _ _)) (gb_set _ _ _ _)) (gb_set _ _ _ _)))
   have r5:=rb_set3 rA htL4 ⟨pv,sA,aA,lA,cA,pz⟩
   have hA5 : Rok Fw _ (B + 1) (L4.set t ⟨pv,sA,aA,lA,cA,pz⟩):=(fun y hy => (List.mem_or_eq_of_mem_set hy).elim (fun h => ((hok4.mono (Nat.le_succ B)).grownU hg2 r4.noU) y h) (fun h => h.symm ▸ ⟨hzA.grownU (gb_trans (gb_trans (gb_set wA g3 (t * 3) (.int .i64 pv)) (gb_set _ g3 (t * 3 + 1) (.bool sA))) (gb_set _ g3 (t * 3 + 2) (.slice aA lA cA))) rA.noU,(by show lA≤B + 1; omega),hv⟩))
   have hb5:=hide (below_grown hb4.out hg2 hg3b)
   have hins : Ins L n (L4.set t ⟨pv,sA,aA,lA,cA,pz⟩) (n + 1) pv pz:=by
    unfold Ins
    rw [hlay.out ⟨pv,sA,aA,lA,cA,pz⟩]
    exact lay_ins (by simp; omega) (fun i h hi => by rw [List.getElem_take]; exact hless.out i _ hi) (fun h => ⟨Int.not_lt.2 (hfin.out h).1,(hfin.out h).2⟩) rfl
   replace hins:=hide hins
   clear hg2 hgA hd kd kA uA0 uA1 uA2 uA3 uA4 uA5 hzA rA
   go_wp2
   go_ret
   exact ⟨some ⟨g3,0,none⟩,n + 1,cap3,rfl,_,.inr ⟨g3,rfl,hg3b,r5,(by simpa using hlen4),o_m,hc3⟩,hA5,hins.out,o_m,hb5.out⟩
  obtain rfl : n = t:=by omega
  clear ht htn
  go_wp2_with fail
  go_quiet (fail)
  have kT1:=grow_drewN kr nq
  generalize wr.drewN nq = wr1 at *
  clear kr
  go_wp2_with fail
  go_quiet (fail)
  have kT:=grow_drewN kT1 nq
  generalize wr1.drewN nq = wT at *
  clear kT1
  have hR2:=hR1.out.below kT
  have hb2:=hide (grow_step kT hb1.out)
  have hok2:=hok1.below kT
  have hz2:=hz1.below kT
  have x2 : PB wT q pv s a l c:=(kT.block q x.lt).trans x
  have kz:=below_alloc wT (.cells #[.int .i64 0,.bool false,.slice none 0 0] 69)
  have happ:=run_append_rs (hR2.below kz) (grow_step kz hb2.out) zr ⟨wT.heap.size,0,none⟩ (v3_new wT 0 false none 0 0) o_m
  replace happ:=hide happ
  have x2l:=x2.lt
  replace kz:=hide kz
  go_wp2_with (at_builtin; refine wpList_append_run rfl _ _ 38 rfl _ _ rfl rfl _ (happ.out _) ?_; rintro v3 w3 ⟨cap3,L3,hR3,htk,hmem,hb3,hg3,hown3⟩)
  rcases hR3 with ⟨_,h,_⟩ | ⟨g3,rfl,hg3b,r3,hl3,hn3,hc3⟩
  ·omega
  have hq3 : q ≠ g3:=fun e => by
   rcases hown3 with h | h
   ·exact hqo0.out (by rw [← h,e]; rfl)
   simp [Value.ownBlock] at h; omega
  have x3 : PB w3 q pv s a l c:=(hg3.block q (Nat.lt_of_lt_of_le x2l kz.out.size) hqo0.out).trans ((kz.out.block q x2l).trans x2)
  have hz3:=rs_zm (hR2.below kz.out) hg3 (hz2.below kz.out)
  have hok3 : Rok Fw w3 B L3:=fun y hy => by
   rcases hmem y hy with h | rfl | rfl
   ·exact ⟨rs_zn (hR2.below kz.out) hg3 ((hok2 y h).1.below kz.out),(hok2 y h).2⟩
   ·exact zr_ok _ _
   exact zr_ok _ _
  have kd:=grow_drew (Below.refl w3.heap.size w3)
  have hcopy:=fun da sa dcap scap => run_copy_zero (w:=w3.drew) (da:=da) (sa:=sa) (dcap:=dcap) (scap:=scap) (ls:=1) (ld:=0) (by rfl) 3
  have hlay : Hid (∀ y : Raw,(L3.set n y).take (n + 1) = (L.take n).take n ++ [y] ++ (L.take n).drop n):=fun y => by
   have:=lay_take (t:=n) (y:=y) htk (show (L.take n).length = n by simp; omega) (Nat.le_refl n)
   unfold lay at this
   simpa using this
  have r4 : RB w3.drew g3 L3:=r3.below kd
  have hok4 : Rok Fw w3.drew B L3:=hok3.below kd
  have hz4 : Zm Fw w3.drew s a l c pz:=hz3.below kd
  have x4 : PB w3.drew q pv s a l c:=(kd.block q x3.lt).trans x3
  have hb4 : Hid (Below w0.heap.size w0 w3.drew):=grow_step kd hb3
  have hfin : Hid (∀ h : n < (L.take n).length,pv≤((L.take n)[n]).v∧((L.take n)[n]).v ≠ pv):=fun h => absurd h (by simp; omega)
  have b1 : (0 : Int)≤(n : Int) + 1∧(n : Int) + 1≤(n : Int) + 1∧(n : Int) + 1≤cap3∧(n : Int)≤(n : Int) + 1:=by omega
  obtain ⟨b1,b2,b3,b4⟩:=b1
  have b5 : IntKind.i64.wrap ((n : Int) + 1) = (n : Int) + 1:=by simp [IntKind.wrap,IntKind.bits,IntKind.signed]; omega
  clear hok3 hz3 x3 hg3 hb3 hown3
  go_region_held3 (fun _ => True) (trivial) (fail)
  clear hcopy kd r3
  have hlen4 : L3.length = cap3:=hl3
  generalize w3.drew = w4 at *
  generalize L3 = L4 at *
  go_wp2_with fail
  all_goals
   have htL4 : n < L4.length:=by omega
   have kd:=grow_drew (Below.refl w4.heap.size w4)
   have hd : w4.grownBy w4.drew (some g3):=⟨rfl,rfl,rfl,Nat.le_refl _,fun _ _ _ => rfl⟩
   have b6 : (n : Int) < (n : Int) + 1:=by omega
   go_region_held3 (fun w' => w'.cell? ⟨q,0,none⟩ = some (.int .i64 pv)∧w'.cell? ⟨q,1,none⟩ = some (.bool s)∧w'.cell? ⟨q,2,none⟩ = some (.slice a l c)∧w4.grownBy w' (some g3))
    ((refine pk x4 hq3 ?_; assumption))
    ((go_at_call 135; refine (rnorm_n (Zm.below hz4 kd) o_m).mono ?_; rintro e wA ⟨sA,aA,lA,cA,rfl,hzA,kA,hlA⟩; have hgA:=gb_below hd kA; have rA:=(r4.below kd).below kA; have uA0:=rA.c0 htL4; have uA1:=rA.c1 htL4; have uA2:=rA.c2 htL4; have uA3:=rA.f (n * 3); have uA4:=rA.f (n * 3 + 1); have uA5:=rA.f (n * 3 + 2); have hg2 : w4.grownBy (((wA.setCell ⟨g3,n * 3,none⟩ (.int .i64 pv)).setCell ⟨g3,n * 3 + 1,none⟩ (.bool sA)).setCell ⟨g3,n * 3 + 2,none⟩ (.slice aA lA cA)) (some g3):=gb_trans (gb_trans (gb_trans hgA (gb_set _ _ _ _)) (gb_set _ _ _ _)) (gb_set _ _ _ _)))
   have r5:=rb_set3 rA htL4 ⟨pv,sA,aA,lA,cA,pz⟩
   have hA5 : Rok Fw _ (B + 1) (L4.set n ⟨pv,sA,aA,lA,cA,pz⟩):=(fun y hy => (List.mem_or_eq_of_mem_set hy).elim (fun h => ((hok4.mono (Nat.le_succ B)).grownU hg2 r4.noU) y h) (fun h => h.symm ▸ ⟨hzA.grownU (gb_trans (gb_trans (gb_set wA g3 (n * 3) (.int .i64 pv)) (gb_set _ g3 (n * 3 + 1) (.bool sA))) (gb_set _ g3 (n * 3 + 2) (.slice aA lA cA))) rA.noU,(by show lA≤B + 1; omega),hv⟩))
   have hb5:=hide (below_grown hb4.out hg2 hg3b)
   have hins : Ins L n (L4.set n ⟨pv,sA,aA,lA,cA,pz⟩) (n + 1) pv pz:=by
    unfold Ins
    rw [hlay.out ⟨pv,sA,aA,lA,cA,pz⟩]
    exact lay_ins (by simp; omega) (fun i h hi => by rw [List.getElem_take]; exact hless.out i _ hi) (fun h => ⟨Int.not_lt.2 (hfin.out h).1,(hfin.out h).2⟩) rfl
   replace hins:=hide hins
   clear hg2 hgA hd kd kA uA0 uA1 uA2 uA3 uA4 uA5 hzA rA
   go_wp2
   go_ret
   exact ⟨some ⟨g3,0,none⟩,n + 1,_,rfl,_,.inr ⟨g3,rfl,hg3b,r5,(by rw [List.length_set]; omega),o_m,o_m⟩,hA5,hins.out,o_m,hb5.out⟩
theorem rnorm5_w (hP : Pr Fw w ad n ps B) (hz : Zm Fw w s a l c k) (hl : l≤B) (hn : n≤268435456) (hB : B + n≤268435456) :
  Calls Tryz.prog 116 #[.agg #[.slice ad n cp,.bool s,.slice a l c]] w fun e w' => ∃ ad' n' cp' s' a' l' c',e = .returned (.agg #[.slice ad' n' cp',.bool s',.slice a' l' c'])∧TW Fw w' ad' n' s' a' l' c' (nz (lays [] ps)) k (B + n + 1)∧Zn Fw w' s' a' l' c' k∧Below w.heap.size w w'∧n'≤n∧Pn Fw w' ad' n' (nz (lays [] ps)) (B + n + 1)∧(∀ b off,ad' = some ⟨b,off,none⟩→w.heap.size≤b):=by
 go_enter Tryz.func116,Tryz.ntmps116
 go_wp2_with fail
 have x:=(tb_new w ad n cp s a l c).below (below_alloc _ (.cells #[.slice none 0 0,.bool false,.slice none 0 0] 40))
 have y:=tb_new (w.alloc (.cells #[.slice ad n cp,.bool s,.slice a l c] 40)) none 0 0 false none 0 0
 have b0 : Below w.heap.size w ((w.alloc (.cells #[.slice ad n cp,.bool s,.slice a l c] 40)).alloc (.cells #[.slice none 0 0,.bool false,.slice none 0 0] 40)):=below_alloc' (below_alloc _ _) _
 rw [show (w.alloc (.cells #[.slice ad n cp,.bool s,.slice a l c] 40)).heap.size = w.heap.size + 1 from by simp] at y
 generalize (w.alloc (.cells #[.slice ad n cp,.bool s,.slice a l c] 40)).alloc (.cells #[.slice none 0 0,.bool false,.slice none 0 0] 40) = wb at *
 have hpr : w.heap.size < w.heap.size + 1:=by omega
 have hP0:=hide hP
 clear hP
 replace hz:=hz.below b0
 generalize hp : w.heap.size = p at *
 replace hp:=hide hp
 generalize p + 1 = r at *
 refine (rnorm_n hz o_m).mono ?_
 rintro e w1 ⟨s1,a1,l1,c1,rfl,hz1,k1,hl1⟩
 replace hz:=hz.below k1
 have x1:=x.below k1
 have y1:=y.below k1
 have v0:=y1.c0
 have v1:=y1.c1
 have v2:=y1.c2
 have v3:=y1.f 0
 have v4:=y1.f 1
 have v5:=y1.f 2
 go_wp2_with fail
 have yo:=tb_new w1 none 0 0 s1 a1 l1 c1
 have ko:=below_alloc w1 (.cells #[.slice none 0 0,.bool s1,.slice a1 l1 c1] 40)
 replace hz1:=hz1.below ko
 replace x1:=x1.below ko
 replace y1:=y1.below ko
 have hbo:=hide (hp.out.symm ▸ (b0.trans ((k1.mono (Nat.le_of_lt (Nat.lt_trans hpr y.lt))).trans (ko.mono (Nat.le_trans (Nat.le_of_lt (Nat.lt_trans hpr y.lt)) k1.size)))) : Below w.heap.size w _)
 have hro : Hid (p < r∧r < w1.heap.size):=⟨hpr,Nat.lt_of_lt_of_le y.lt k1.size⟩
 generalize w1.alloc (.cells #[.slice none 0 0,.bool s1,.slice a1 l1 c1] 40) = wo at *
 generalize w1.heap.size = o at *
 clear k1 ko b0 v0 v1 v2 v3 v4 v5 x y hz
 go_loopw [4] (fun i wr => ∃ (t : Nat) (ad' : Option Addr) (n' cap' : Nat) (L' : List Raw),t≤n∧i = .int .i64 t∧TB wr o ad' n' cap' s1 a1 l1 c1∧Hid (RS wo.heap.size wr (.slice ad' n' cap') n' cap' L')∧Hid (Rok Fw wr (B + t) L')∧Hid ((L'.take n').map Raw.p = lays [] (ps.take t))∧n'≤t∧Hid (wo.grownBy wr (some o))) (fun i _ => n - (intOf i).toNat)
 case atStart => exact ⟨0,none,0,0,[],Nat.zero_le _,rfl,yo,.inl ⟨rfl,rfl,rfl,rfl⟩,(fun x hx => absurd hx (by simp)),(show _ = _ from rfl),by omega,⟨rfl,rfl,rfl,Nat.le_refl _,fun _ _ _ => rfl⟩⟩
 case round =>
  obtain ⟨t,ad',n',cap',L',ht,rfl,yr,hR,hok,hlays,hn',hg⟩:=hrel
  have xr:=x1.grown hg.out (by have:=hro.out; omega)
  have u0:=xr.c0
  have e0:=yr.c0
  have f0:=yr.f 0
  have hol:=yo.lt
  by_cases htn : t < n
  ·obtain ⟨hpn,hPr⟩:=hP0.out
   rcases hPr with hPr | ⟨bp,f,rfl,hPr⟩
   ·omega
   have hbp:=hPr.1
   obtain ⟨s2,a2,l2,c2,g0,g1,g2,hz2,hl2,hv⟩:=(hPr.below hbo.out).2 t o_m
   have hbpo : bp ≠ o:=by have:=hro.out; have:=hp.out; omega
   have hbpl : bp < wo.heap.size:=(hPr.below hbo.out).1
   have hpo : p ≠ o:=by have:=hro.out; omega
   have hps : Hid (ps.take (t + 1) = ps.take t ++ [ps[t]]):=List.take_succ_eq_append_getElem (l:=ps) (i:=t) o_m
   generalize ps[t] = pp at *
   obtain ⟨pv,pz⟩:=pp
   dsimp only at *
   obtain ⟨w0,hw0,hbr,hnext⟩:=own_base yo hg.out yr
   have kd:=grow_drew (Below.refl wr.heap.size wr)
   have hd:=gb_below hg.out kd
   have hR0 : RS w0.heap.size wr.drew (.slice ad' n' cap') n' cap' L':=hw0 ▸ (hR.out.below kd)
   have hlaid:=hide (laid_n (B:=B + t) hR0 (grow_step kd hbr) (hok.out.below kd) (hz2.grownU hd (tb_noU yo)) o_m hv o_m o_m)
   have hnext':=hide hnext
   clear hbr hR0 hnext hPr hz2
   replace hw0:=hide hw0
   go_wp2_with fail
   refine wp_region_held_drew (S:=(fun w' => w'.cell? ⟨p,0,none⟩ = some (.slice (some ⟨bp,f,none⟩) n cp)∧w'.cell? ⟨bp,f + t * 3,none⟩ = some (.int .i64 pv)∧w'.cell? ⟨bp,f + t * 3 + 1,none⟩ = some (.bool s2)∧w'.cell? ⟨bp,f + t * 3 + 2,none⟩ = some (.slice a2 l2 c2)∧wo.grownBy w' (some o))) k_f (nk x1 hpo g0 g1 g2 hbpl hbpo hd) (fun hHeld => ?_)
   show wpAnyH _ _ _ _ _ 10 _ _ _
   refine tkz 0 19 ?_
   (try simp only [pz])
   refine tkz 2 21 ?_
   (try simp only [pz])
   refine tkz 3 22 ?_
   (try simp only [pz])
   refine tkz 4 23 ?_
   (try simp only [pz])
   refine tkz 5 24 ?_
   (try simp only [pz])
   refine tkz 6 25 ?_
   (try simp only [pz])
   refine ryz 1 (some 20) (fun K hK => ?_) ?_
   ·go_simp
    refine hK.out _ _ ?_ ?_
    ·(try dsimp only); (refine nk x1 hpo g0 g1 g2 hbpl hbpo ?_; assumption)
    clear hK K hHeld; intro hHeld
    (try simp only [pz])
    refine ryz 7 (some 26) (fun K hK => ?_) ?_
    ·go_simp
     go_at_call 158; refine hlaid.out.mono ?_; rintro e w2 ⟨ad2,n2,cap2,L2,rfl,hR2,hok2,hins,hn2,hb2⟩; obtain ⟨hg2,y2⟩:=hnext'.out w2 hb2; have d0:=y2.c0; have d1:=y2.f 0; have hg3:=gb_trans hg2 (gb_set w2 o 0 (.slice ad2 n2 cap2))
     (try go_wp2_with fail)
     refine hK.out _ _ ?_ ?_
     ·(try dsimp only); (refine nk x1 hpo g0 g1 g2 hbpl hbpo ?_; assumption)
     clear hK K hHeld; intro hHeld
     (try simp only [pz])
     refine tkz 8 27 ?_
     (try simp only [pz])
     refine ryz 9 none (fun K hK => ?_) ?_
     ·go_simp
      refine hK.out _ _ ?_ ?_
      ·(try dsimp only); (refine nk x1 hpo g0 g1 g2 hbpl hbpo ?_; assumption)
      clear hK K hHeld; intro hHeld
      (try simp only [pz])
      refine wpAnyH_done k_f ?_ _
      (have y3:=tb_set0 y2 ad2 n2 cap2; have hR3:=hide (RS.grown (o:=o) (hw0.out ▸ hR2 : RS wo.heap.size w2 (.slice ad2 n2 cap2) n2 cap2 L2) (gb_set w2 o 0 (.slice ad2 n2 cap2)) hol); have hok3 : Hid (Rok Fw (w2.setCell ⟨o,0,none⟩ (.slice ad2 n2 cap2)) (B + (t + 1)) L2):=(hok2.grownU (gb_set w2 o 0 (.slice ad2 n2 cap2)) (tb_noU y2)); have hlays3 : Hid ((L2.take n2).map Raw.p = lays [] (ps.take (t + 1))):=(show _ = _ by rw [hps.out,lays_snoc,← hlays.out]; exact hins); replace hg3:=hide hg3; clear hHeld hR2 hok2 hins hb2 hg2 y2 d0 d1 hd kd hlaid hnext'; go_wp2_with fail; exact ⟨⟨t + 1,ad2,n2,cap2,L2,by omega,by go_num,y3,hR3,hok3,hlays3,by omega,hg3⟩,by simp [intOf]; omega⟩)
     exact AllReadyH.nil
    exact AllReadyH.nil
   exact AllReadyH.nil
  obtain rfl : n = t:=by omega
  have hall : Hid ((L'.take n').map Raw.p = lays [] ps):=(show _ = _ by rw [hlays.out,List.take_of_length_le (by have:=hP0.out.1; omega)])
  have hzr:=hide (hz1.grownU hg.out (tb_noU yo))
  have yr0:=y1.grown hg.out (by have:=hro.out; omega)
  have hbr : Hid (Below w.heap.size w wr):=below_grown hbo.out hg.out (by have:=hro.out; have:=hp.out; omega)
  have hpl : Hid (w.heap.size≤p∧p < r∧r < o∧o < wr.heap.size):=⟨Nat.le_of_eq hp.out,hro.out.1,hro.out.2,yr.lt⟩
  clear hg hlays hbo hol ht htn yo x1 y1 hz1
  go_wp2_with fail
  generalize wr = wl at *
  go_loopw [5,6] (fun v i w3 => ∃ (t : Nat) (ad3 : Option Addr) (n3 cap3 : Nat) (L3 : List Raw),t≤n'∧i = .int .i64 t∧v = .slice ad3 n3 cap3∧Hid (RS wl.heap.size w3 (.slice ad3 n3 cap3) n3 cap3 L3)∧Hid (Rok Fw w3 (B + n) L3)∧Hid ((L3.take n3).map Raw.p = nz ((L'.take t).map Raw.p))∧n3≤t∧Hid (Below wl.heap.size wl w3)) (fun _ i _ => n' - (intOf i).toNat)
  case atStart => exact ⟨0,none,0,0,[],Nat.zero_le _,rfl,rfl,.inl ⟨rfl,rfl,rfl,rfl⟩,(fun x hx => absurd hx (by simp)),(show _ = _ from rfl),by omega,Below.refl _ _⟩
  case round =>
   obtain ⟨t,ad3,n3,cap3,L3,ht,rfl,rfl,hR3,hok3,hnz,hn3,k3⟩:=hrel
   have yq:=yr.below k3.out
   have e3:=yq.c0
   by_cases htn : t < n'
   ·rcases hR.out with ⟨_,h,_⟩ | ⟨g,he,hgb,rb,hLc,hnc,hcm⟩
    ·omega
    simp at he
    subst he
    have r3:=rb.below k3.out
    have htL : t < L'.length:=by omega
    have q0:=r3.c0 htL
    have q1:=r3.c1 htL
    have q2:=r3.c2 htL
    have hx:=(hok.out.below k3.out) L'[t] (List.getElem_mem htL)
    have hstep : Hid (nz ((L'.take (t + 1)).map Raw.p) = nz ((L'.take t).map Raw.p) ++ nz [(L'[t]).p]):=(show _ = _ by rw [List.take_succ_eq_append_getElem htL,List.map_append,nz_append]; rfl)
    generalize hxr : L'[t] = xr at *
    go_wp2_with fail
    refine (rsign_n hx.1.zm (by have:=hx.2.1; omega)).mono ?_
    rintro e w4 ⟨rfl,k4⟩
    have kk : Hid (Below wl.heap.size wl w4):=grow_step k4 k3.out
    have R4:=hide (hR3.out.below k4)
    have ok4:=hide (hok3.out.below k4)
    replace hx : okL Fw w4 (B + n) xr:=⟨hx.1.below k4,hx.2⟩
    replace yq:=yq.below k4
    have e4:=yq.c0
    replace r3:=r3.below k4
    by_cases hz0 : xr.z = 0
    ·have hc : cmpI xr.z 0 = 0:=by rw [hz0]; rfl
     rw [hc]
     have hnz' : Hid ((L3.take n3).map Raw.p = nz ((L'.take (t + 1)).map Raw.p)):=(show _ = _ by rw [hstep.out,hnz.out]; simp [nz,Raw.p,hz0])
     go_wp2_with fail
     exact ⟨⟨t + 1,ad3,n3,cap3,L3,by omega,by go_num,rfl,R4,ok4,hnz',by omega,kk⟩,by simp [intOf]; omega⟩
    have hc : cmpI xr.z 0 ≠ 0:=by unfold cmpI; split <;> (try split) <;> omega
    generalize cmpI xr.z 0 = cz at *
    have t0:=hxr ▸ r3.c0 htL
    have t1:=hxr ▸ r3.c1 htL
    have t2:=hxr ▸ r3.c2 htL
    have kz:=below_alloc w4 (.cells #[.int .i64 xr.v,.bool xr.s,.slice xr.a xr.l xr.c] 69)
    have happ:=hide (run_append_rs (w0:=wl) (R4.out.below kz) (grow_step kz kk.out) xr ⟨w4.heap.size,0,none⟩ (v3_new w4 xr.v xr.s xr.a xr.l xr.c) o_m)
    replace kz:=hide kz
    clear k4
    go_wp2_with (at_builtin; refine wpList_append_run rfl _ _ 38 rfl _ _ rfl rfl _ (happ.out _) ?_; rintro v5 w5 ⟨cap5,L5,hR5,htk,hmem,hb5,hg5, -⟩; obtain ⟨ad5,rfl⟩:=hR5.row; replace hR5:=hide hR5; replace hmem:=hide hmem; replace hb5:=hide hb5; replace hg5:=hide hg5; replace htk:=hide htk)
    have ok5 : Hid (Rok Fw w5 (B + n) L5):=fun y hy => by
     rcases hmem.out y hy with h | rfl | rfl
     ·exact ⟨rs_zn (R4.out.below kz.out) hg5.out ((ok4.out y h).1.below kz.out),(ok4.out y h).2⟩
     ·exact ⟨rs_zn (R4.out.below kz.out) hg5.out (hx.1.below kz.out),hx.2⟩
     exact zr_ok _ _
    have hnz' : Hid ((L5.take (n3 + 1)).map Raw.p = nz ((L'.take (t + 1)).map Raw.p)):=(show _ = _ by rw [htk.out,List.map_append,hnz.out,hstep.out]; simp [nz,Raw.p,hz0])
    exact ⟨⟨t + 1,ad5,n3 + 1,cap5,L5,by omega,by go_num,rfl,hR5,ok5,hnz',by omega,hb5⟩,by simp [intOf]; omega⟩
   obtain rfl : n' = t:=by omega
   have e1:=yq.f 0
   have y5:=tb_set0 yq ad3 n3 cap3
   have g5:=gb_set wr o 0 (.slice ad3 n3 cap3)
   have yr5:=(yr0.below k3.out).grown g5 (by have:=hpl.out; omega)
   have i0:=y5.c0
   have i1:=y5.c1
   have i2:=y5.c2
   have j0:=yr5.c0
   have j1:=yr5.c1
   have j2:=yr5.c2
   have j3:=yr5.f 0
   have j4:=yr5.f 1
   have j5:=yr5.f 2
   have i3:=yq.c1
   have i4:=yq.c2
   have g6:=tb_set (wr.setCell ⟨o,0,none⟩ (.slice ad3 n3 cap3)) r (.slice ad3 n3 cap3) (.bool s1) (.slice a1 l1 c1)
   have fR:=hide ((hR3.out.grown g5 yr.lt).grown g6 (by have:=hpl.out; omega))
   have fO:=hide ((hok3.out.grownU g5 (tb_noU yq)).grownU g6 (tb_noU yr5))
   have fZ:=hide (((hzr.out.below k3.out).grownU g5 (tb_noU yq)).grownU g6 (tb_noU yr5))
   have fB:=hide (below_grown (below_grown (hbr.out.trans (k3.out.mono hbr.out.size)) g5 (by have:=hpl.out; omega)) g6 (by have:=hpl.out; omega))
   have fin:=hide (tb_fin yr5 ad3 n3 cap3 s1 a1 l1 c1)
   have hfull : Hid ((L3.take n3).map Raw.p = nz (lays [] ps)):=(show _ = _ by rw [hnz.out,hall.out])
   clear g5 g6
   go_wp2_with fail
   refine bodyPost_ret (results_cell_row rfl _ _ r 40 _ (0,0) _ rfl fin.out Tryz.underlying40 rfl k_f) rfl ?_
   have hpr:=rs_pr fR.out fO.out
   have hpn:=rs_pn fR.out fO.out
   rw [hfull.out] at hpr hpn
   have hnew : ∀ b off,ad3 = some ⟨b,off,none⟩→w.heap.size≤b:=fun b off e => by
    rcases fR.out with ⟨h1,_⟩ | ⟨g,h1,hg,_⟩
    ·simp at h1
     rw [h1.1] at e
     cases e
    simp at h1
    rw [h1] at e
    simp at e
    have:=hpl.out
    omega
   exact ⟨ad3,n3,cap3,s1,a1,l1,c1,by simp,⟨hpr.mono o_m,fZ.out.zm,by omega⟩,fZ.out,fB.out,by omega,hpn.mono o_m,hnew⟩
theorem rnorm5_r (hP : Pr Fw w ad n ps B) (hz : Zm Fw w s a l c k) (hl : l≤B) (hn : n≤268435456) (hB : B + n≤268435456) :
  Calls Tryz.prog 116 #[.agg #[.slice ad n cp,.bool s,.slice a l c]] w fun e w' => ∃ ad' n' cp' s' a' l' c',e = .returned (.agg #[.slice ad' n' cp',.bool s',.slice a' l' c'])∧TW Fw w' ad' n' s' a' l' c' (nz (lays [] ps)) k (B + n + 1)∧Zn Fw w' s' a' l' c' k∧Below w.heap.size w w'∧n'≤n∧Pn Fw w' ad' n' (nz (lays [] ps)) (B + n + 1) :=
 (rnorm5_w hP hz hl hn hB).mono fun _ _ ⟨ad',n',cp',s',a',l',c',he,h1,h2,h3,h4,h5,_⟩ => ⟨ad',n',cp',s',a',l',c',he,h1,h2,h3,h4,h5⟩
theorem rnorm5_n (hP : Pr Fw w ad n ps B) (hz : Zm Fw w s a l c k) (hl : l≤B) (hn : n≤268435456) (hB : B + n≤268435456) :
  Calls Tryz.prog 116 #[.agg #[.slice ad n cp,.bool s,.slice a l c]] w fun e w' => ∃ ad' n' cp' s' a' l' c',e = .returned (.agg #[.slice ad' n' cp',.bool s',.slice a' l' c'])∧TW Fw w' ad' n' s' a' l' c' (nz (lays [] ps)) k (B + n + 1)∧Zn Fw w' s' a' l' c' k∧Below w.heap.size w w'∧n'≤n :=
 (rnorm5_r hP hz hl hn hB).mono fun _ _ ⟨ad',n',cp',s',a',l',c',he,h1,h2,h3,h4,_⟩ => ⟨ad',n',cp',s',a',l',c',he,h1,h2,h3,h4⟩
end Go.Proofs.YtcfmkjegolpgaaaGreatDoor.Low

namespace Go.Proofs.YtcfmkjegolpgaaaGreatDoor
open Go.RowKit Go.Sort Go.Shelf
open Tm

end Go.Proofs.YtcfmkjegolpgaaaGreatDoor
