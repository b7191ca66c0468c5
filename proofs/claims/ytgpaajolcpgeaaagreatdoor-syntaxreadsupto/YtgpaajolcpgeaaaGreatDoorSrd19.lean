/-
 Layer 4: maps as lists of entries, whatever their keys are.
-/
import Derived.Test.YtgpaajolcpgeaaaGreatDoorSrd12
import Derived.WideKeyRuns
import Derived.Maps.Own
namespace Go.Proofs.YtgpaajolcpgeaaaGreatDoor
open Go.RowKit
open Go.ChangeMaps (setBlock heap_setBlock_same heap_setBlock_other)
namespace Sx

/-- what is asked of the keys V of type k in a world -/
structure Ky (k : TypeId) (V : Value → Prop) (w : World) : Prop where
 chk : ∀ v em, V v → (Instr.checkKey em 10000 k v).run Tryz.prog w = .ok () w
 find : ∀ x (es : List MapEntry), V x → (∀ e ∈ es, V e.key) → ((Instr.findKey k x es).run Tryz.prog w = .ok none w ∧ ∀ e ∈ es, e.key ≠ x) ∨ ∃ l1 e l2, es = l1 ++ e :: l2 ∧ (Instr.findKey k x es).run Tryz.prog w = .ok (some (l1.length, e.val)) w ∧ e.key = x
 stays : ∀ v, V v → (Instr.keyThatStays v v).run Tryz.prog w = .ok v w
/-- keys of a struct's, an array's kind -/
theorem ky_wide {k : TypeId} {V : Value → Prop} {w : World} (hw : ∀ x es, (Instr.findKey k x es).run Tryz.prog w = (Instr.findAsking k x es).run Tryz.prog w) (hc : ∀ v em, V v → (Instr.checkKey em 10000 k v).run Tryz.prog w = .ok () w)
  (he : ∀ v u, V v → V u → ∃ b, (Op.equal k v u).run Tryz.prog w = .ok b w ∧ (b = true ↔ v = u)) (hs : ∀ v, V v → Instr.sameBits 10000 v v = true) : Ky k V w where
 chk := hc
 find := fun x es hx hes => by
  rw [hw]
  have : ∀ (es : List MapEntry) (i : Nat), (∀ e ∈ es, V e.key) → ((Instr.findAsking k x es i).run Tryz.prog w = .ok none w ∧ ∀ e ∈ es, e.key ≠ x) ∨ ∃ l1 e l2, es = l1 ++ e :: l2 ∧ (Instr.findAsking k x es i).run Tryz.prog w = .ok (some (i + l1.length, e.val)) w ∧ e.key = x := by
   intro es
   induction es with
   | nil => exact fun i _ => .inl ⟨by simp [Instr.findAsking], by simp⟩
   | cons e es ih =>
    intro i h
    obtain ⟨b, hb, hb2⟩ := he x e.key hx (h e (by simp))
    cases b with
    | true => exact .inr ⟨[], e, es, rfl, by simp [Instr.findAsking, hb], (hb2.1 rfl).symm⟩
    | false =>
     have hne : e.key ≠ x := fun e2 => by cases (hb2.2 e2.symm)
     rcases ih (i + 1) (fun e he => h e (by simp [he])) with ⟨h1, h2⟩ | ⟨l1, e1, l2, rfl, h1, h2⟩
     ·refine .inl ⟨by simp [Instr.findAsking, hb, h1], fun e' he' => ?_⟩
      rcases List.mem_cons.1 he' with rfl | he'
      ·exact hne
      ·exact h2 e' he'
     ·exact .inr ⟨e :: l1, e1, l2, rfl, by simp [Instr.findAsking, hb, h1]; omega, h2⟩
  rcases this es 0 hes with h | ⟨l1, e, l2, h1, h2, h3⟩
  ·exact .inl h
  ·exact .inr ⟨l1, e, l2, h1, by rw [h2, Nat.zero_add], h3⟩
 stays := fun v hv => by simp [Instr.keyThatStays, hs v hv]
/-- keys that are read as data -/
theorem ky_of {k : TypeId} (K : Maps.Keyed Tryz.prog k) (w : World) : Ky k (fun v => ∃ l, keyOf Tryz.prog k v = some l) w where
 chk := fun v em ⟨l, h⟩ => K.check w em h
 find := fun x es ⟨l, hx⟩ hes => by
  rcases K.find w hx es hes with h | ⟨j, e, h1, h2, h3⟩
  ·exact .inl h
  ·have hj : j < es.length := by
    rcases Nat.lt_or_ge j es.length with h | h
    ·exact h
    ·rw [List.getElem?_eq_none h] at h2
     cases h2
   have he : es[j] = e := by rw [List.getElem?_eq_getElem hj] at h2; exact Option.some.inj h2
   refine .inr ⟨es.take j, e, es.drop (j + 1), ?_, ?_, h3⟩
   ·rw [← he, ← List.drop_eq_getElem_cons hj, List.take_append_drop]
   ·rw [h1, List.length_take, Nat.min_eq_left (Nat.le_of_lt hj)]
 stays := fun v ⟨l, h⟩ => K.stays w h
/-- A MAP's BLOCK: its entries, in the order in which they came -/
structure Mp (V : Value → Prop) (w : World) (m : Nat) (E : List (Value × Value)) : Prop where
 b : ∃ es clock, w.heap[m]? = some (.map es clock) ∧ es.toList.map (fun e => (e.key, e.val)) = E
 v : ∀ p ∈ E, V p.1
 d : E.Pairwise (fun p q => p.1 ≠ q.1)
theorem Mp.lt {V : Value → Prop} {w : World} {m : Nat} {E : List (Value × Value)} (h : Mp V w m E) : m < w.heap.size := by
 obtain ⟨es, clock, h, -⟩ := h.b
 exact (Array.getElem?_eq_some_iff.1 h).1
theorem Mp.kept {V : Value → Prop} {w w' : World} {m : Nat} {E : List (Value × Value)} (h : Mp V w m E) (hb : w'.heap[m]? = w.heap[m]?) : Mp V w' m E := by
 obtain ⟨es, clock, h1, h2⟩ := h.b
 exact ⟨⟨es, clock, hb.trans h1, h2⟩, h.v, h.d⟩
theorem Mp.imp {V V' : Value → Prop} {w : World} {m : Nat} {E : List (Value × Value)} (h : Mp V w m E) (hV : ∀ v, V v → V' v) : Mp V' w m E := ⟨h.b, fun p hp => hV _ (h.v p hp), h.d⟩
theorem mp_new (V : Value → Prop) (w : World) : Mp V (w.alloc (.map #[] 0)) w.heap.size [] := ⟨⟨#[], 0, heap_alloc_new w _, rfl⟩, by simp, List.Pairwise.nil⟩
/-- what a store makes of the entries -/
def PutE (k v : Value) (E E' : List (Value × Value)) : Prop := ((∀ p ∈ E, p.1 ≠ k) ∧ E' = E ++ [(k, v)]) ∨ ∃ E1 v0 E2, E = E1 ++ (k, v0) :: E2 ∧ E' = E1 ++ (k, v) :: E2
theorem apart_mid {E1 E2 : List (Value × Value)} {p q : Value × Value} (h : (E1 ++ p :: E2).Pairwise (fun p q => p.1 ≠ q.1)) (hp : p.1 = q.1) : (E1 ++ q :: E2).Pairwise (fun p q => p.1 ≠ q.1) := by
 rw [List.pairwise_append, List.pairwise_cons] at h ⊢
 refine ⟨h.1, ⟨fun r hr => hp ▸ h.2.1.1 r hr, h.2.1.2⟩, fun r hr s hs => ?_⟩
 rcases List.mem_cons.1 hs with rfl | hs
 ·exact hp ▸ h.2.2 r hr p (by simp)
 ·exact h.2.2 r hr s (by simp [hs])
theorem Mp.put {k t e : TypeId} {V : Value → Prop} {w : World} {m : Nat} {E : List (Value × Value)} (h : Mp V w m E) (K : Ky k V w) (ht : Tryz.prog.underlying t = some (.map k e)) {x : Value} (hx : V x) (v : Value) :
  ∃ w' E', (Instr.mapUpdate t (.map (some m)) x v).run Tryz.prog w = .ok () w' ∧ PutE x v E E' ∧ Mp V w' m E' ∧ w.grownBy w' (some m) := by
 obtain ⟨⟨es, clock, hb, rfl⟩, hV, hd⟩ := h
 have hk : ∀ e ∈ es.toList, V e.key := fun e he => hV (e.key, e.val) (List.mem_map.2 ⟨e, he, rfl⟩)
 have hgr : ∀ es' clock', w.grownBy (setBlock w m (.map es' clock')) (some m) := fun es' clock' => ⟨rfl, rfl, rfl, by simp [setBlock], fun i _ hi => heap_setBlock_other hb _ (fun e => hi (by rw [e]))⟩
 rcases K.find x es.toList hx hk with ⟨h1, h2⟩ | ⟨l1, e0, l2, h0, h1, h2⟩
 ·refine ⟨setBlock w m (.map (es.push ⟨x, v, clock⟩) (clock + 1)), _, ?_, .inl ⟨?_, rfl⟩, ⟨⟨_, _, heap_setBlock_same hb _, by simp⟩, ?_, ?_⟩, hgr _ _⟩
  ·simp [Instr.mapUpdate, run_underlying ht, MapKept.run_getObj_map hb, K.chk x false hx, h1, MapKept.run_setObj_map _ hb, Result.andThen, setBlock]
  ·intro p hp
   obtain ⟨e, he, rfl⟩ := List.mem_map.1 hp
   exact h2 e he
  ·intro p hp
   rcases List.mem_append.1 hp with hp | hp
   ·exact hV p hp
   ·obtain rfl := List.mem_singleton.1 hp
    exact hx
  ·rw [List.pairwise_append]
   refine ⟨hd, by simp, fun p hp q hq => ?_⟩
   obtain rfl := List.mem_singleton.1 hq
   obtain ⟨e, he, rfl⟩ := List.mem_map.1 hp
   exact h2 e he
 ·have hj : es[l1.length]? = some e0 := by
   rw [← Array.getElem?_toList, h0]
   simp
  have hE : es.toList.map (fun e => (e.key, e.val)) = l1.map (fun e => (e.key, e.val)) ++ (x, e0.val) :: l2.map (fun e => (e.key, e.val)) := by rw [h0, List.map_append, List.map_cons, h2]
  have hm : (es.modify l1.length fun e => { e with key := x, val := v }).toList = l1 ++ { e0 with key := x, val := v } :: l2 := by
   rw [Array.toList_modify, Go.ChangeMaps.modify_eq_set _ _ _ e0 (by rw [h0]; simp), h0]
   simp
  refine ⟨setBlock w m (.map (es.modify l1.length fun e => { e with key := x, val := v }) clock), _, ?_, .inr ⟨_, _, _, hE, rfl⟩, ⟨⟨_, _, heap_setBlock_same hb _, by rw [hm, List.map_append, List.map_cons]⟩, ?_, ?_⟩, hgr _ _⟩
  ·simp [Instr.mapUpdate, run_underlying ht, MapKept.run_getObj_map hb, K.chk x false hx, h1, hj, h2, K.stays x hx, MapKept.run_setObj_map _ hb, Result.andThen, setBlock]
  ·intro p hp
   rw [hE] at hV
   rcases List.mem_append.1 hp with hp | hp
   ·exact hV p (by simp [hp])
   ·rcases List.mem_cons.1 hp with rfl | hp
    ·exact hx
    ·exact hV p (by simp [hp])
  ·rw [hE] at hd
   exact apart_mid hd rfl
/-- what a look finds -/
theorem Mp.get {k t e : TypeId} {V : Value → Prop} {w : World} {m : Nat} {E : List (Value × Value)} (h : Mp V w m E) (K : Ky k V w) (ht : Tryz.prog.underlying t = some (.map k e)) {z : Value} (hz : (zeroValue e).run Tryz.prog w = .ok z w) {x : Value} (hx : V x) (ok : Bool) :
  ((∀ p ∈ E, p.1 ≠ x) ∧ (Instr.lookup t (.map (some m)) x ok).run Tryz.prog w = .ok (if ok then .tuple #[z, .bool false] else z) w) ∨ ∃ v, (x, v) ∈ E ∧ (Instr.lookup t (.map (some m)) x ok).run Tryz.prog w = .ok (if ok then .tuple #[v, .bool true] else v) w := by
 obtain ⟨⟨es, clock, hb, rfl⟩, hV, hd⟩ := h
 have hk : ∀ e ∈ es.toList, V e.key := fun e he => hV (e.key, e.val) (List.mem_map.2 ⟨e, he, rfl⟩)
 rcases K.find x es.toList hx hk with ⟨h1, h2⟩ | ⟨l1, e0, l2, h0, h1, h2⟩
 ·refine .inl ⟨fun p hp => ?_, ?_⟩
  ·obtain ⟨e, he, rfl⟩ := List.mem_map.1 hp
   exact h2 e he
  ·simp [Instr.lookup, run_underlying ht, MapKept.run_getObj_map hb, K.chk x _ hx, h1, hz]
 ·refine .inr ⟨e0.val, ?_, ?_⟩
  ·rw [h0, List.map_append, List.map_cons, h2]
   simp
  ·simp [Instr.lookup, run_underlying ht, MapKept.run_getObj_map hb, K.chk x _ hx, h1]
theorem Mp.len {V : Value → Prop} {w : World} {m : Nat} {E : List (Value × Value)} (h : Mp V w m E) : ∃ es clock, w.heap[m]? = some (.map es clock) ∧ es.size = E.length := by
 obtain ⟨es, clock, h1, h2⟩ := h.b
 exact ⟨es, clock, h1, by rw [← h2]; simp⟩
end Sx
end Go.Proofs.YtgpaajolcpgeaaaGreatDoor
