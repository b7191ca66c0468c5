/-
 Several texts in one: I6, I7, I8, I9, IA.
-/
import Derived.Test.YtgpaajolcpgeaaaGreatDoorSrd22
import Derived.Test.YtgpaajolcpgeaaaGreatDoorSrd21
import Derived.Maps.OwnSet
import Derived.Deep.DeepCutAuto
namespace Go.Proofs.YtgpaajolcpgeaaaGreatDoor
open Go.RowKit
namespace Sx

/-- all is there still but for the four maps -/
structure B4 (m : Nat) (w w' : World) : Prop where
 os : w'.os = w.os
 tape : w'.tape = w.tape
 output : w'.output = w.output
 size : w.heap.size ≤ w'.heap.size
 block : ∀ b, b < w.heap.size → (b < m ∨ m + 4 ≤ b) → w'.heap[b]? = w.heap[b]?
theorem B4.refl (m : Nat) (w : World) : B4 m w w := ⟨rfl, rfl, rfl, Nat.le_refl _, fun _ _ _ => rfl⟩
theorem B4.trans {m : Nat} {w w1 w2 : World} (h : B4 m w w1) (k : B4 m w1 w2) : B4 m w w2 :=
 ⟨k.os.trans h.os, k.tape.trans h.tape, k.output.trans h.output, Nat.le_trans h.size k.size, fun b hb hm => (k.block b (Nat.lt_of_lt_of_le hb h.size) hm).trans (h.block b hb hm)⟩
theorem B4.of_below {m : Nat} {w w' : World} (h : Below w.heap.size w w') : B4 m w w' := ⟨h.os, h.tape, h.output, h.size, fun b hb _ => h.block b hb⟩
theorem B4.of_grown {m i : Nat} {w w' : World} (h : w.grownBy w' (some i)) (h1 : m ≤ i) (h2 : i < m + 4) : B4 m w w' := ⟨h.os, h.tape, h.output, h.size, fun b hb hm => h.block b hb fun e => by have := Option.some.inj e; omega⟩
theorem B4.kf {m : Nat} {w w' : World} {F : Nat → Prop} (h : B4 m w w') (hF : ∀ b, F b → b < m ∨ m + 4 ≤ b) : Kf F w w' := ⟨h.size, fun b hb hl => h.block b hl (hF b hb)⟩
theorem B4.vb {m b : Nat} {w w' : World} {x : TC} (h : B4 m w w') (hv : VB w b x) (hb : b < m ∨ m + 4 ≤ b) : VB w' b x := (h.block b hv.lt hb).trans hv
/-- the map of counts tells how often a name is bound -/
def FnB (E : List (Value × Value)) (bd : Nme → Nat) : Prop := (∀ n v, (.string n, v) ∈ E → v = .int .i64 (bd n : Int)) ∧ ∀ n, (∀ p ∈ E, p.1 ≠ .string n) → bd n = 0
/-- one name's count is another one -/
def upB (bd : Nme → Nat) (n : Nme) (c : Nat) : Nme → Nat := fun k => if k = n then c else bd k
theorem upB_same (bd : Nme → Nat) (n : Nme) (c : Nat) : upB bd n c n = c := if_pos rfl
theorem upB_other {bd : Nme → Nat} {n k : Nme} {c : Nat} (h : k ≠ n) : upB bd n c k = bd k := if_neg h
theorem FnB.put {E E' : List (Value × Value)} {bd : Nme → Nat} {n : Nme} {c : Nat} (h : FnB E bd) (hd : E'.Pairwise (fun p q => p.1 ≠ q.1)) (hp : PutE (.string n) (.int .i64 (c : Int)) E E') : FnB E' (upB bd n c) := by
 constructor
 ·intro k v hk
  by_cases e : k = n
  ·subst e
   rw [upB_same]
   rcases hp with ⟨h1, rfl⟩ | ⟨E1, v0, E2, rfl, rfl⟩
   ·rcases List.mem_append.1 hk with hk | hk
    ·exact absurd rfl (h1 _ hk)
    ·have := List.mem_singleton.1 hk
     exact (Prod.mk.inj this).2
   ·rw [List.pairwise_append, List.pairwise_cons] at hd
    rcases List.mem_append.1 hk with hk | hk
    ·exact absurd rfl (hd.2.2 _ hk (.string k, .int .i64 (c : Int)) List.mem_cons_self)
    ·rcases List.mem_cons.1 hk with hk | hk
     ·exact (Prod.mk.inj hk).2
     ·exact absurd rfl (hd.2.1.1 (.string k, v) hk)
  ·rw [upB_other e]
   have hne : ∀ v1 : Value, ((.string k, v) : Value × Value) ≠ (.string n, v1) := fun v1 h => e (by injection h with h1 _; injection h1)
   rcases hp with ⟨h1, rfl⟩ | ⟨E1, v0, E2, rfl, rfl⟩
   ·rcases List.mem_append.1 hk with hk | hk
    ·exact h.1 k v hk
    ·exact absurd (List.mem_singleton.1 hk) (hne _)
   ·rcases List.mem_append.1 hk with hk | hk
    ·exact h.1 k v (List.mem_append_left _ hk)
    ·rcases List.mem_cons.1 hk with hk | hk
     ·exact absurd hk (hne _)
     ·exact h.1 k v (List.mem_append_right _ (List.mem_cons_of_mem _ hk))
 ·intro k hk
  have e : k ≠ n := by
   rintro rfl
   rcases hp with ⟨h1, rfl⟩ | ⟨E1, v0, E2, rfl, rfl⟩
   ·exact hk _ (List.mem_append_right _ (List.mem_singleton.2 rfl)) rfl
   ·exact hk _ (List.mem_append_right _ List.mem_cons_self) rfl
  rw [upB_other e]
  refine h.2 k fun p hp' => ?_
  rcases hp with ⟨h1, rfl⟩ | ⟨E1, v0, E2, rfl, rfl⟩
  ·exact hk p (List.mem_append_left _ hp')
  ·rcases List.mem_append.1 hp' with hp' | hp'
   ·exact hk p (List.mem_append_left _ hp')
   ·rcases List.mem_cons.1 hp' with rfl | hp'
    ·intro e2
     injection e2 with e2
     exact e e2.symm
    ·exact hk p (List.mem_append_right _ (List.mem_cons_of_mem _ hp'))
/-- how what was found reads -/
def R1 (_ : Value) : Option (DataW Unit × List MemPlace) := some (.lit (.bool true), [])
/-- what a name is as a map's key -/
abbrev kyL (n : Nme) : Lit := .string n.data.toList
theorem ky_inj {n k : Nme} (h : kyL n = kyL k) : n = k := by
 injection h with h
 obtain ⟨⟨a⟩⟩ := n
 obtain ⟨⟨b⟩⟩ := k
 exact congrArg (fun l => (⟨⟨l⟩⟩ : Nme)) h
/-- a list that was seen in a scope: it is being looked at, or all its free names are found -/
def EntOk (F : Nat → Prop) (w : World) (SC : List (List Nme)) (fd : Nme → Prop) (O : Value → Prop) (p : Value × Value) : Prop := p.2 = .agg #[] ∧ ∃ (sl : SlT) (L : List Tr) (s : Nat) (b : List Nme), p.1 = vwV sl.ka sl.kn s ∧ KL F w sl L ∧ SC[s]? = some b ∧ (O p.1 ∨ ∀ n, FvL b L n → fd n)
theorem pre_get {A B : List (List Nme)} (h : A <+: B) {s : Nat} {b : List Nme} (hs : A[s]? = some b) : B[s]? = some b := by
 obtain ⟨C, rfl⟩ := h
 rw [List.getElem?_append_left (List.getElem?_eq_some_iff.1 hs).1, hs]
theorem EntOk.imp {F : Nat → Prop} {w w' : World} {SC SC' : List (List Nme)} {fd fd' : Nme → Prop} {O O' : Value → Prop} {p : Value × Value} (h : EntOk F w SC fd O p) (k : Kf F w w') (h1 : SC <+: SC') (h2 : ∀ n, fd n → fd' n) (h3 : O p.1 → O' p.1) : EntOk F w' SC' fd' O' p := by
 obtain ⟨e, sl, L, s, b, e1, e2, e3, e4⟩ := h
 exact ⟨e, sl, L, s, b, e1, KL.kf e2 k, pre_get h1 e3, e4.imp h3 fun h n hn => h2 n (h n hn)⟩
/-- WHAT FREE HOLDS. m: the first of the four maps; bd: how often a name is bound; SC: what the scopes say; O: lists that are being looked at -/
structure FrM (F : Nat → Prop) (m : Nat) (w : World) (bd : Nme → Nat) (SC : List (List Nme)) (E : List (Value × Value)) (fd : Nme → Prop) (nf : Nat) (O : Value → Prop) : Prop where
 bnd : ∃ Eb, Mp StK w m Eb ∧ FnB Eb bd
 sco : ∃ Es, Mp BnK w (m + 1) Es ∧ Es.length + 1 = SC.length ∧ ∀ p ∈ Es, ∃ (s s' : Nat) (n : Nme) (b : List Nme), p = (bnV s n, .int .i64 s') ∧ SC[s]? = some b ∧ SC[s']? = some (n :: b)
 see : Met3 F w (m + 2) E
 ent : ∀ p ∈ E, EntOk F w SC fd O p
 fnd : ∃ D : DataW Unit, w.ownsMap Tryz.prog 9 R1 (m + 3) nf D ∧ ∀ n : Nme, Maps.has D (kyL n) = true ↔ fd n
 hF : ∀ b, F b → b < m ∨ m + 4 ≤ b
variable {F : Nat → Prop} {m : Nat} {w w' : World} {bd : Nme → Nat} {SC : List (List Nme)} {E : List (Value × Value)} {fd : Nme → Prop} {nf : Nat} {O : Value → Prop}
theorem FrM.lt (h : FrM F m w bd SC E fd nf O) : m + 3 < w.heap.size := by
 obtain ⟨D, h1, -⟩ := h.fnd
 exact h1.lt
theorem FrM.below (h : FrM F m w bd SC E fd nf O) (k : Below w.heap.size w w') : FrM F m w' bd SC E fd nf O where
 bnd := by
  obtain ⟨Eb, h1, h2⟩ := h.bnd
  exact ⟨Eb, h1.kept (k.block _ h1.lt), h2⟩
 sco := by
  obtain ⟨Es, h1, h2⟩ := h.sco
  exact ⟨Es, h1.kept (k.block _ h1.lt), h2⟩
 see := Met3.kf h.see (k.block _ h.see.lt) (Kf.of_below k)
 ent p hp := (h.ent p hp).imp (Kf.of_below k) (List.prefix_refl _) (fun _ h => h) id
 fnd := by
  obtain ⟨D, h1, h2⟩ := h.fnd
  exact ⟨D, h1.kept (gb_of (m := w'.heap.size) k) (by have := h1.lt; have := k.size; intro e; have := Option.some.inj e; omega), h2⟩
 hF := h.hF
/-- one of the maps was written: the others and all lists stay -/
theorem FrM.keep (h : FrM F m w bd SC E fd nf O) {i : Nat} (g : w.grownBy w' (some i)) (h1 : m ≤ i) (h2 : i < m + 4) : (i ≠ m → ∃ Eb, Mp StK w' m Eb ∧ FnB Eb bd) ∧ (i ≠ m + 1 → ∃ Es, Mp BnK w' (m + 1) Es ∧ Es.length + 1 = SC.length ∧ ∀ p ∈ Es, ∃ (s s' : Nat) (n : Nme) (b : List Nme), p = (bnV s n, .int .i64 s') ∧ SC[s]? = some b ∧ SC[s']? = some (n :: b))
  ∧ (i ≠ m + 2 → Met3 F w' (m + 2) E) ∧ (i ≠ m + 3 → ∃ D : DataW Unit, w'.ownsMap Tryz.prog 9 R1 (m + 3) nf D ∧ ∀ n : Nme, Maps.has D (kyL n) = true ↔ fd n) ∧ Kf F w w'
  ∧ ∀ p ∈ E, EntOk F w' SC fd O p := by
 have kf : Kf F w w' := Kf.of_grown g fun hi => by have := h.hF i hi; omega
 have bl : ∀ j, j < w.heap.size → i ≠ j → w'.heap[j]? = w.heap[j]? := fun j hj hij => g.block j hj fun e => hij (Option.some.inj e).symm
 refine ⟨fun hi => ?_, fun hi => ?_, fun hi => Met3.kf h.see (bl _ h.see.lt hi) kf, fun hi => ?_, kf, fun p hp => ?_⟩
 ·obtain ⟨Eb, h1, h2⟩ := h.bnd
  exact ⟨Eb, h1.kept (bl _ h1.lt hi), h2⟩
 ·obtain ⟨Es, h1, h2⟩ := h.sco
  exact ⟨Es, h1.kept (bl _ h1.lt hi), h2⟩
 ·obtain ⟨D, h1, h2⟩ := h.fnd
  exact ⟨D, h1.kept g fun e => hi (Option.some.inj e).symm, h2⟩
 ·exact (h.ent p hp).imp kf (List.prefix_refl _) (fun _ h => h) id
theorem zero_i (w : World) : (zeroValue 3).run Tryz.prog w = .ok (.int .i64 0) w := by kernel_rfl
/-- how often a name is bound -/
theorem FrM.count (h : FrM F m w bd SC E fd nf O) {n : Nme} (hn : n.size ≤ 1073741824) : (Instr.lookup 101 (.map (some m)) (.string n) false).run Tryz.prog w = .ok (.int .i64 (bd n : Int)) w := by
 obtain ⟨Eb, h1, h2⟩ := h.bnd
 rcases h1.get (ky_str w) Tryz.underlying101 (zero_i w) ⟨n, rfl, hn⟩ false with ⟨h3, h4⟩ | ⟨v, h3, h4⟩
 ·rw [h4, h2.2 n h3]
  rfl
 ·rw [h4, h2.1 n v h3]
  rfl
/-- a name's count is set -/
theorem FrM.bump (h : FrM F m w bd SC E fd nf O) {n : Nme} (hn : n.size ≤ 1073741824) (c : Nat) : ∃ w', (Instr.mapUpdate 101 (.map (some m)) (.string n) (.int .i64 (c : Int))).run Tryz.prog w = .ok () w' ∧ FrM F m w' (upB bd n c) SC E fd nf O ∧ w.grownBy w' (some m) := by
 obtain ⟨Eb, h1, h2⟩ := h.bnd
 obtain ⟨w', E', h3, h4, h5, g⟩ := h1.put (ky_str w) Tryz.underlying101 (x := .string n) ⟨n, rfl, hn⟩ (.int .i64 (c : Int))
 obtain ⟨-, k2, k3, k4, kf, k5⟩ := h.keep g (Nat.le_refl _) (by omega)
 exact ⟨w', h3, ⟨⟨E', h5, h2.put h5.d h4⟩, k2 (by omega), k3 (by omega), k5, k4 (by omega), h.hF⟩, g⟩
/-- a name is found -/
theorem FrM.find (h : FrM F m w bd SC E fd nf O) {n : Nme} (hn : n.size ≤ 1073741824) (hnf : nf < maxLen) : ∃ w', (Instr.mapUpdate 104 (.map (some (m + 3))) (.string n) (.agg #[])).run Tryz.prog w = .ok () w' ∧ FrM F m w' bd SC E (fun k => fd k ∨ k = n) (nf + 1) O ∧ w.grownBy w' (some (m + 3)) := by
 obtain ⟨D, h1, h2⟩ := h.fnd
 obtain ⟨w', h3, h4, g⟩ := h1.update (Maps.string_keyed Tryz.underlying9) Tryz.underlying104 hnf (WideMaps.keyOf_string_mk Tryz.underlying9 (s := n) (by unfold maxLen; omega)) (val := .agg #[]) (d := .lit (.bool true)) (ps := []) rfl
 obtain ⟨k1, k2, k3, -, kf, k5⟩ := h.keep g (by omega) (by omega)
 have ht := h1.tidy (Maps.string_keyed Tryz.underlying9)
 refine ⟨w', h3, ⟨k1 (by omega), k2 (by omega), k3 (by omega), fun p hp => ?_, ⟨_, h4, fun k => ?_⟩, h.hF⟩, g⟩
 ·exact (k5 p hp).imp (Kf.refl _ _) (List.prefix_refl _) (fun _ h => .inl h) id
 ·by_cases e : k = n
  ·subst e
   exact ⟨fun _ => .inr rfl, fun _ => Maps.has_put_same ht.isMap (by unfold WideAt.IsKeyLit; trivial) _⟩
  ·rw [Maps.has_put_other (fun e2 => e (ky_inj e2)), h2 k]
   exact ⟨.inl, fun h => h.resolve_right e⟩
theorem Mp.uniq {V : Value → Prop} {w : World} {m : Nat} {E : List (Value × Value)} (h : Mp V w m E) {k v v' : Value} (h1 : (k, v) ∈ E) (h2 : (k, v') ∈ E) : v = v' := by
 have := h.d
 clear h
 induction E with
 | nil => cases h1
 | cons p E ih =>
  rw [List.pairwise_cons] at this
  rcases List.mem_cons.1 h1 with e1 | h1
  ·rcases List.mem_cons.1 h2 with e2 | h2
   ·exact (Prod.mk.inj (e1.trans e2.symm)).2
   ·exact absurd (by rw [← e1]) (this.1 _ h2)
  ·rcases List.mem_cons.1 h2 with e2 | h2
   ·exact absurd (by rw [← e2]) (this.1 _ h1)
   ·exact ih h1 h2 this.2
/-- a name that was bound in a scope already, or was not -/
theorem FrM.scope (h : FrM F m w bd SC E fd nf O) (s : Nat) (n : Nme) :
  ((Instr.lookup 102 (.map (some (m + 1))) (bnV s n) true).run Tryz.prog w = .ok (.tuple #[.int .i64 0, .bool false]) w) ∨
   ∃ (s' : Nat) (b : List Nme), SC[s]? = some b ∧ SC[s']? = some (n :: b) ∧ (Instr.lookup 102 (.map (some (m + 1))) (bnV s n) true).run Tryz.prog w = .ok (.tuple #[.int .i64 (s' : Int), .bool true]) w ∧ (Instr.lookup 102 (.map (some (m + 1))) (bnV s n) false).run Tryz.prog w = .ok (.int .i64 (s' : Int)) w := by
 obtain ⟨Es, h1, h2, h3⟩ := h.sco
 rcases h1.get (ky_bind w) Tryz.underlying102 (zero_i w) (x := bnV s n) ⟨s, n, rfl⟩ true with ⟨-, h4⟩ | ⟨v, h4, h5⟩
 ·exact .inl h4
 ·obtain ⟨s1, s', n1, b, e, h6, h7⟩ := h3 _ h4
  injection e with e1 e2
  simp only [bnV, Value.agg.injEq, Array.mk.injEq, List.cons.injEq, Value.int.injEq, Value.string.injEq, true_and, and_true] at e1
  obtain ⟨e3, rfl⟩ := e1
  obtain rfl : s = s1 := by omega
  subst e2
  refine .inr ⟨s', b, h6, h7, h5, ?_⟩
  rcases h1.get (ky_bind w) Tryz.underlying102 (zero_i w) (x := bnV s n) ⟨s, n, rfl⟩ false with ⟨h8, -⟩ | ⟨v, h8, h9⟩
  ·exact absurd rfl (h8 _ h4)
  ·rw [h9, h1.uniq h8 h4]
   rfl
theorem FrM.scopes (h : FrM F m w bd SC E fd nf O) {ty : TypeId} : (Builtin.len_ #[102] ty #[.map (some (m + 1))]).run Tryz.prog w = .ok (.int .i64 ((SC.length : Int) - 1)) w := by
 obtain ⟨Es, h1, h2, -⟩ := h.sco
 obtain ⟨es, clock, h3, h4⟩ := h1.len
 rw [len_map Tryz.underlying102 h3, h4, ← h2]
 congr 2
 omega
/-- a scope more -/
theorem FrM.bind1 (h : FrM F m w bd SC E fd nf O) {s : Nat} {b : List Nme} (hs : SC[s]? = some b) (n : Nme) (hno : (Instr.lookup 102 (.map (some (m + 1))) (bnV s n) true).run Tryz.prog w = .ok (.tuple #[.int .i64 0, .bool false]) w) :
  ∃ w', (Instr.mapUpdate 102 (.map (some (m + 1))) (bnV s n) (.int .i64 (SC.length : Int))).run Tryz.prog w = .ok () w' ∧ FrM F m w' bd (SC ++ [n :: b]) E fd nf O ∧ w.grownBy w' (some (m + 1)) ∧ (Instr.lookup 102 (.map (some (m + 1))) (bnV s n) false).run Tryz.prog w' = .ok (.int .i64 (SC.length : Int)) w' := by
 obtain ⟨Es, h1, h2, h3⟩ := h.sco
 obtain ⟨w', E', h4, h5, h6, g⟩ := h1.put (ky_bind w) Tryz.underlying102 (x := bnV s n) ⟨s, n, rfl⟩ (.int .i64 (SC.length : Int))
 obtain ⟨k1, -, k3, k4, kf, k5⟩ := h.keep g (by omega) (by omega)
 have hpre : SC <+: SC ++ [n :: b] := ⟨_, rfl⟩
 have hout : ∀ p ∈ Es, p.1 ≠ bnV s n := by
  rcases h1.get (ky_bind w) Tryz.underlying102 (zero_i w) (x := bnV s n) ⟨s, n, rfl⟩ true with ⟨h7, -⟩ | ⟨v, -, h7⟩
  ·exact h7
  ·rw [hno] at h7
   injection h7 with h7
   injection h7 with h7
   injection h7 with h7
   simp at h7
 refine ⟨w', h4, ⟨k1 (by omega), ⟨E', h6, ?_, ?_⟩, k3 (by omega), fun p hp => ?_, k4 (by omega), h.hF⟩, g, ?_⟩
 ·rcases h5 with ⟨-, rfl⟩ | ⟨E1, v0, E2, rfl, rfl⟩
  ·simp [h2]
  ·exact absurd rfl (hout _ (List.mem_append_right _ List.mem_cons_self))
 ·rcases h5 with ⟨-, rfl⟩ | ⟨E1, v0, E2, rfl, rfl⟩
  ·intro p hp
   rcases List.mem_append.1 hp with hp | hp
   ·obtain ⟨a, a', c, d, e1, e2, e3⟩ := h3 p hp
    exact ⟨a, a', c, d, e1, pre_get hpre e2, pre_get hpre e3⟩
   ·exact ⟨s, SC.length, n, b, List.mem_singleton.1 hp, pre_get hpre hs, by simp⟩
  ·exact absurd rfl (hout _ (List.mem_append_right _ List.mem_cons_self))
 ·exact (k5 p hp).imp (Kf.refl _ _) hpre (fun _ h => h) id
 ·rcases h5 with ⟨-, rfl⟩ | ⟨E1, v0, E2, rfl, rfl⟩
  ·rcases h6.get (ky_bind w') Tryz.underlying102 (zero_i w') (x := bnV s n) ⟨s, n, rfl⟩ false with ⟨h7, -⟩ | ⟨v, h7, h8⟩
   ·exact absurd rfl (h7 _ (List.mem_append_right _ (List.mem_singleton.2 rfl)))
   ·rcases List.mem_append.1 h7 with h7 | h7
    ·exact absurd rfl (hout _ h7)
    ·rw [h8, (Prod.mk.inj (List.mem_singleton.1 h7)).2]
     rfl
  ·exact absurd rfl (hout _ (List.mem_append_right _ List.mem_cons_self))
theorem zero_e (w : World) : (zeroValue 92).run Tryz.prog w = .ok (.agg #[]) w := by kernel_rfl
/-- was a list seen in a scope? -/
theorem FrM.seen (h : FrM F m w bd SC E fd nf O) {sl : SlT} {L : List Tr} {F1 : Nat → Prop} (s : Nat) (hu : Un F w sl.ka) (hk : KL F1 w sl L) (hO : ¬ O (vwV sl.ka sl.kn s)) {b : List Nme} (hs : SC[s]? = some b) :
  (Instr.lookup 103 (.map (some (m + 2))) (vwV sl.ka sl.kn s) true).run Tryz.prog w = .ok (.tuple #[.agg #[], .bool false]) w ∨
   (Instr.lookup 103 (.map (some (m + 2))) (vwV sl.ka sl.kn s) true).run Tryz.prog w = .ok (.tuple #[.agg #[], .bool true]) w ∧ ∀ n, FvL b L n → fd n := by
 rcases h.see.get (ky_view F w) Tryz.underlying103 (zero_e w) (x := vwV sl.ka sl.kn s) ⟨_, _, _, rfl, hu⟩ true with ⟨-, h4⟩ | ⟨v, h4, h5⟩
 ·exact .inl h4
 ·obtain ⟨e, sl2, L2, s2, b2, e1, e2, e3, e4⟩ := h.ent _ h4
  dsimp only at e e1
  subst e
  refine .inr ⟨h5, ?_⟩
  have e4 := e4.resolve_left hO
  simp only [vwV, Value.agg.injEq, Array.mk.injEq, List.cons.injEq, Value.pointer.injEq, Value.int.injEq, true_and, and_true] at e1
  obtain ⟨e5, e6, e7⟩ := e1
  have e6' : sl.kn = sl2.kn := by omega
  obtain rfl : s = s2 := by omega
  rw [hs] at e3
  cases e3
  unfold KL at hk e2
  rw [e5, e6'] at hk
  rw [rk_only hk e2]
  exact e4
/-- a list is seen: it is being looked at -/
theorem FrM.open1 (h : FrM F m w bd SC E fd nf O) {sl : SlT} {L : List Tr} (s : Nat) (hu : Un F w sl.ka) (hk : KL F w sl L) {b : List Nme} (hs : SC[s]? = some b) :
  ∃ w' E', (Instr.mapUpdate 103 (.map (some (m + 2))) (vwV sl.ka sl.kn s) (.agg #[])).run Tryz.prog w = .ok () w' ∧ FrM F m w' bd SC E' fd nf (fun v => O v ∨ v = vwV sl.ka sl.kn s) ∧ w.grownBy w' (some (m + 2)) := by
 obtain ⟨w', E', h4, h5, h6, g⟩ := Met3.put h.see Tryz.underlying103 (x := vwV sl.ka sl.kn s) ⟨_, _, _, rfl, hu⟩ (.agg #[])
 obtain ⟨k1, k2, -, k4, kf, k5⟩ := h.keep g (by omega) (by omega)
 have new : EntOk F w' SC fd (fun v => O v ∨ v = vwV sl.ka sl.kn s) (vwV sl.ka sl.kn s, .agg #[]) := ⟨rfl, sl, L, s, b, rfl, KL.kf hk kf, hs, .inl (.inr rfl)⟩
 have old : ∀ p ∈ E, EntOk F w' SC fd (fun v => O v ∨ v = vwV sl.ka sl.kn s) p := fun p hp => (k5 p hp).imp (Kf.refl _ _) (List.prefix_refl _) (fun _ h => h) .inl
 refine ⟨w', E', h4, ⟨k1 (by omega), k2 (by omega), h6, fun p hp => ?_, k4 (by omega), h.hF⟩, g⟩
 rcases h5 with ⟨-, rfl⟩ | ⟨E1, v0, E2, rfl, rfl⟩
 ·rcases List.mem_append.1 hp with hp | hp
  ·exact old p hp
  ·rw [List.mem_singleton.1 hp]
   exact new
 ·rcases List.mem_append.1 hp with hp | hp
  ·exact old p (List.mem_append_left _ hp)
  ·rcases List.mem_cons.1 hp with rfl | hp
   ·exact new
   ·exact old p (List.mem_append_right _ (List.mem_cons_of_mem _ hp))
/-- it is looked at -/
theorem FrM.shut1 {sl : SlT} {L : List Tr} {F1 : Nat → Prop} {s : Nat} {b : List Nme} (h : FrM F m w bd SC E fd nf (fun v => O v ∨ v = vwV sl.ka sl.kn s)) (hk : KL F1 w sl L) (hs : SC[s]? = some b) (hall : ∀ n, FvL b L n → fd n) : FrM F m w bd SC E fd nf O :=
 ⟨h.bnd, h.sco, h.see, fun p hp => by
   obtain ⟨e, sl2, L2, s2, b2, e1, e2, e3, e4⟩ := h.ent p hp
   refine ⟨e, sl2, L2, s2, b2, e1, e2, e3, ?_⟩
   rcases e4 with (e4 | e4) | e4
   ·exact .inl e4
   ·right
    rw [e4] at e1
    simp only [vwV, Value.agg.injEq, Array.mk.injEq, List.cons.injEq, Value.pointer.injEq, Value.int.injEq, true_and, and_true] at e1
    obtain ⟨e5, e6, e7⟩ := e1
    have e6' : sl.kn = sl2.kn := by omega
    obtain rfl : s = s2 := by omega
    rw [hs] at e3
    cases e3
    unfold KL at hk e2
    rw [e5, e6'] at hk
    rw [← rk_only hk e2]
    exact hall
   ·exact .inr e4, h.fnd, h.hF⟩
end Sx
end Go.Proofs.YtgpaajolcpgeaaaGreatDoor

namespace Go.Proofs.YtgpaajolcpgeaaaGreatDoor
open Go.RowKit
namespace Sx

abbrev fV (m : Nat) : Value := .agg #[.map (some m), .map (some (m + 1)), .map (some (m + 2)), .map (some (m + 3))]
/-- the finder's variable -/
def FB (w : World) (b m : Nat) : Prop := w.heap[b]? = some (.cells #[.map (some m), .map (some (m + 1)), .map (some (m + 2)), .map (some (m + 3))] 106 (0, 0))
theorem FB.lt {w : World} {b m : Nat} (h : FB w b m) : b < w.heap.size := lt_of_block h
theorem FB.c0 {w : World} {b m : Nat} (h : FB w b m) : w.cell? ⟨b, 0, none⟩ = some (.map (some m)) := cell_of_row w b 0 _ _ (0, 0) h
theorem FB.c1 {w : World} {b m : Nat} (h : FB w b m) : w.cell? ⟨b, 1, none⟩ = some (.map (some (m + 1))) := cell_of_row w b 1 _ _ (0, 0) h
theorem FB.c2 {w : World} {b m : Nat} (h : FB w b m) : w.cell? ⟨b, 2, none⟩ = some (.map (some (m + 2))) := cell_of_row w b 2 _ _ (0, 0) h
theorem FB.c3 {w : World} {b m : Nat} (h : FB w b m) : w.cell? ⟨b, 3, none⟩ = some (.map (some (m + 3))) := cell_of_row w b 3 _ _ (0, 0) h
theorem FB.b4 {w w' : World} {b m : Nat} (h : FB w b m) (k : B4 m w w') (hb : m + 4 ≤ b) : FB w' b m := (k.block b h.lt (.inr hb)).trans h
theorem fb_new (w : World) (m : Nat) : FB (w.alloc (.cells #[.map (some m), .map (some (m + 1)), .map (some (m + 2)), .map (some (m + 3))] 106)) w.heap.size m := heap_alloc_new w _
/-- what bind answers -/
def BnR (F : Nat → Prop) (m : Nat) (w : World) (bd : Nme → Nat) (SC : List (List Nme)) (E : List (Value × Value)) (fd : Nme → Prop) (nf : Nat) (O : Value → Prop) (b : List Nme) (n : Nme) (en : Ending) (w' : World) : Prop :=
 ∃ (s' : Nat) (SC' : List (List Nme)) (b' : List Nme), en = .returned (.int .i64 (s' : Int)) ∧ FrM F m w' (upB bd n (bd n + 1)) SC' E fd nf O ∧ SC <+: SC' ∧ SC'.length ≤ SC.length + 1 ∧ SC'[s']? = some b' ∧ (∀ k, k ∈ b' ↔ k = n ∨ k ∈ b) ∧ B4 m w w'
set_option maxRecDepth 100000 in
set_option maxHeartbeats 3200000 in
theorem bind_n {F : Nat → Prop} {m : Nat} {w : World} {bd : Nme → Nat} {SC : List (List Nme)} {E : List (Value × Value)} {fd : Nme → Prop} {nf : Nat} {O : Value → Prop} (h : FrM F m w bd SC E fd nf O) {s : Nat} {b : List Nme} (hs : SC[s]? = some b) (hb : ∀ k, 0 < bd k ↔ k ∈ b) {n : Nme} (hn : n.size ≤ 1073741824) (hbd : bd n ≤ 1099511627776) (hSC : SC.length ≤ 1099511627776) :
  Calls Tryz.prog 130 #[fV m, .string n, .int .i64 (s : Int)] w (BnR F m w bd SC E fd nf O b n) := by
 have b0 := below_alloc w (.cells #[.map (some m), .map (some (m + 1)), .map (some (m + 2)), .map (some (m + 3))] 106)
 have y0 := fb_new w m
 have h0 := h.below b0
 have hbw : m + 4 ≤ w.heap.size := h.lt
 have hc := h0.count hn
 obtain ⟨c1, hce⟩ : ∃ c1, Hid (c1 = bd n + 1) := ⟨_, hide rfl⟩
 obtain ⟨w1, hrun, h1, g1⟩ := h0.bump hn c1
 have k1 := hide ((B4.of_below b0).trans (B4.of_grown (m := m) g1 (Nat.le_refl _) (by omega)))
 have y1 := y0.b4 (B4.of_grown g1 (Nat.le_refl _) (by omega)) hbw
 have hc1 := h1.count hn
 rw [upB_same] at hc1
 have a0 := y0.c0
 have a1 := y1.c0
 have a2 := y1.c1
 have hw : IntKind.i64.wrap ((bd n : Int) + 1) = (c1 : Int) := by
  rw [IntKind.wrap_i64, hce.out]
  omega
 have h1 : FrM F m w1 (upB bd n (bd n + 1)) SC E fd nf O := hce.out ▸ h1
 replace h1 := hide h1
 replace y1 := hide y1
 clear h h0 y0 b0 g1
 go_enter Tryz.func130, Tryz.ntmps130
 by_cases hpos : 0 < bd n
 ·have hgt : decide ((1 : Int) < (c1 : Int)) = true := by
   rw [decide_eq_true_eq, hce.out]
   omega
  have hfin : Hid (BnR F m w bd SC E fd nf O b n (.returned (.int .i64 (s : Int))) w1) := hide ⟨s, SC, b, rfl, h1.out, List.prefix_refl _, Nat.le_succ _, hs, fun k => ⟨.inr, fun e => e.elim (fun e => e ▸ (hb n).1 hpos) id⟩, k1.out⟩
  clear h1 y1 k1 a2
  go_wp2
  refine bodyPost_ret (results_tmp rfl _ _ _) rfl ?_
  exact hfin.out
 ·have hgt : decide ((1 : Int) < (c1 : Int)) = false := by
   rw [decide_eq_false_iff_not, hce.out]
   omega
  have b2 := below_alloc w1 (.cells #[.int .i64 (s : Int), .string n] 185)
  have h2 := h1.out.below b2
  have k2 := hide (k1.out.trans (B4.of_below b2))
  have y2 := y1.out.b4 (B4.of_below b2) hbw
  have d0 := y2.c1
  have hbk : m + 4 ≤ w1.heap.size := Nat.le_trans hbw k1.out.size
  rcases h2.scope s n with hl | ⟨s', b', e1, e2, hl, hl2⟩
  ·have hln := h2.scopes (ty := 3)
   obtain ⟨w3, hrun3, h3, g3, hl3⟩ := h2.bind1 hs n hl
   have k3 := hide (k2.out.trans (B4.of_grown (m := m) g3 (by omega) (by omega)))
   have y3 := y2.b4 (B4.of_grown g3 (by omega) (by omega)) hbw
   have e0 := y3.c1
   have n3 := heap_alloc_new w1 (.cells #[.int .i64 (s : Int), .string n] 185)
   have n4 := (g3.block w1.heap.size (lt_of_block n3) fun e => by have := Option.some.inj e; omega).trans n3
   have c0 := cell_of_row w3 w1.heap.size 0 _ _ (0, 0) n4
   have c1 := cell_of_row w3 w1.heap.size 1 _ _ (0, 0) n4
   have hwl : IntKind.i64.wrap (1 + ((SC.length : Int) - 1)) = (SC.length : Int) := by
    rw [IntKind.wrap_i64]
    omega
   have hfin : Hid (BnR F m w bd SC E fd nf O b n (.returned (.int .i64 (SC.length : Int))) w3) := hide ⟨SC.length, _, n :: b, rfl, h3, ⟨_, rfl⟩, by simp, by simp, fun k => List.mem_cons, k3.out⟩
   unfold bnV at hl hrun3 hl3
   clear h1 y1 k1 h2 k2 y2 h3 k3 y3 n3 n4 b2 g3
   go_wp2
   refine bodyPost_ret (results_tmp rfl _ _ _) rfl ?_
   exact hfin.out
  ·rw [hs] at e1
   cases e1
   have n3 := heap_alloc_new w1 (.cells #[.int .i64 (s : Int), .string n] 185)
   have c0 := cell_of_row _ w1.heap.size 0 _ _ (0, 0) n3
   have c1 := cell_of_row _ w1.heap.size 1 _ _ (0, 0) n3
   have hfin : Hid (BnR F m w bd SC E fd nf O b n (.returned (.int .i64 (s' : Int))) (w1.alloc (.cells #[.int .i64 (s : Int), .string n] 185))) := hide ⟨s', SC, _, rfl, h2, List.prefix_refl _, Nat.le_succ _, e2, fun k => List.mem_cons, k2.out⟩
   unfold bnV at hl hl2
   clear h1 y1 k1 h2 k2 y2 n3 b2
   go_wp2
   refine bodyPost_ret (results_tmp rfl _ _ _) rfl ?_
   exact hfin.out
end Sx
end Go.Proofs.YtgpaajolcpgeaaaGreatDoor

namespace Go.Proofs.YtgpaajolcpgeaaaGreatDoor
open Go.RowKit
namespace Sx

/-- how often a name stands in a row -/
def ctN (k : Nme) (l : List Nme) : Nat := (l.filter fun n => decide (n = k)).length
theorem ctN_cons (k n : Nme) (l : List Nme) : ctN k (n :: l) = (if n = k then 1 else 0) + ctN k l := by
 unfold ctN
 by_cases h : n = k
 ·simp [h]
  omega
 ·simp [h]
theorem ctN_snoc (k n : Nme) (l : List Nme) : ctN k (l ++ [n]) = ctN k l + if n = k then 1 else 0 := by
 unfold ctN
 by_cases h : n = k
 ·simp [h]
 ·simp [h]
theorem ctN_le (k : Nme) (l : List Nme) : ctN k l ≤ l.length := List.length_filter_le _ _
theorem ctN_pos {k : Nme} {l : List Nme} : 0 < ctN k l ↔ k ∈ l := by
 induction l with
 | nil => simp [ctN]
 | cons n l ih =>
  rw [ctN_cons, List.mem_cons, ← ih]
  by_cases h : n = k
  ·simp [h]
   omega
  ·rw [if_neg h, Nat.zero_add]
   exact ⟨.inr, fun e => e.elim (fun e => absurd e.symm h) id⟩
/-- names bound once more -/
def bdC (bd : Nme → Nat) (l : List Nme) : Nme → Nat := fun k => bd k + ctN k l
theorem bdC_nil (bd : Nme → Nat) : bdC bd [] = bd := rfl
theorem bdC_up (bd : Nme → Nat) (l : List Nme) (n : Nme) : upB (bdC bd l) n (bdC bd l n + 1) = bdC bd (l ++ [n]) := by
 funext k
 unfold upB bdC
 rw [ctN_snoc]
 by_cases h : k = n
 ·subst h
  simp
  omega
 ·rw [if_neg h, if_neg (fun e => h e.symm)]
  omega
theorem bdC_down (bd : Nme → Nat) (l : List Nme) (n : Nme) {c : Nat} (hc : bdC bd (n :: l) n = c + 1) : upB (bdC bd (n :: l)) n c = bdC bd l := by
 funext k
 unfold upB bdC at *
 rw [ctN_cons] at *
 by_cases h : k = n
 ·subst h
  simp at hc ⊢
  omega
 ·rw [if_neg h, if_neg (fun e => h e.symm)]
  omega
theorem bdC_pos {bd : Nme → Nat} {b l : List Nme} (h : ∀ k, 0 < bd k ↔ k ∈ b) (k : Nme) : 0 < bdC bd l k ↔ k ∈ l ∨ k ∈ b := by
 unfold bdC
 rw [← h, ← ctN_pos]
 omega
theorem ncL_same {f g : Nat} {l : List Tr} (h : ∀ u ∈ l, ncF f u = ncF g u) : ncL f l = ncL g l := by
 unfold ncL
 rw [List.map_congr_left h]
theorem ncF_full (n : Nat) : ∀ {t : Tr}, ¬ Dp n t → ncF n t = ncF (n + 1) t := by
 induction n with
 | zero => exact fun h => absurd ⟨_, rfl⟩ h
 | succ n ih =>
  intro t h
  rw [ncF_succ, ncF_succ, ncL_same fun u hu => ih fun ⟨v, hv⟩ => h ⟨v, u, hu, hv⟩]
theorem nc_self {n : Nat} {t : Tr} (h : ¬ Dp n t) : ncF n t = (lbO t).nms.length + ncL n (ksO t) := by rw [ncF_full n h, ncF_succ]
theorem cnL_snoc (f : Nat) (l : List Tr) (t : Tr) : cnL f (l ++ [t]) = cnL f l + cntF f t := by rw [cnL_append, cnL_one]
/-- what lists are being looked at: none that is smaller -/
def OpB (F : Nat → Prop) (w : World) (f N : Nat) (O : Value → Prop) : Prop := ∀ v, O v → ∃ (sl : SlT) (L : List Tr) (s : Int), v = vwV sl.ka sl.kn s ∧ KL F w sl L ∧ N ≤ cnL f L
theorem OpB.kf {F : Nat → Prop} {w w' : World} {f N : Nat} {O : Value → Prop} (h : OpB F w f N O) (k : Kf F w w') : OpB F w' f N O := fun v hv => by
 obtain ⟨sl, L, s, h1, h2, h3⟩ := h v hv
 exact ⟨sl, L, s, h1, KL.kf h2 k, h3⟩
theorem OpB.mono {F : Nat → Prop} {w : World} {f N N' : Nat} {O : Value → Prop} (h : OpB F w f N O) (hN : N' ≤ N) : OpB F w f N' O := fun v hv => by
 obtain ⟨sl, L, s, h1, h2, h3⟩ := h v hv
 exact ⟨sl, L, s, h1, h2, Nat.le_trans hN h3⟩
theorem OpB.not {F F1 : Nat → Prop} {w : World} {f N : Nat} {O : Value → Prop} (h : OpB F w f N O) {sl : SlT} {L : List Tr} {s : Int} (hk : KL F1 w sl L) (hl : cnL f L < N) : ¬ O (vwV sl.ka sl.kn s) := fun hv => by
 obtain ⟨sl2, L2, s2, h1, h2, h3⟩ := h _ hv
 simp only [vwV, Value.agg.injEq, Array.mk.injEq, List.cons.injEq, Value.pointer.injEq, Value.int.injEq, true_and, and_true] at h1
 obtain ⟨e5, e6, e7⟩ := h1
 have e6' : sl.kn = sl2.kn := by omega
 unfold KL at hk h2
 rw [e5, e6'] at hk
 rw [rk_only hk h2] at hl
 omega
/-- what look and lookBelow leave -/
def LkR (F : Nat → Prop) (m : Nat) (w : World) (bd : Nme → Nat) (SC : List (List Nme)) (fd : Nme → Prop) (nf : Nat) (O : Value → Prop) (Q : Nme → Prop) (cs cn : Nat) (en : Ending) (w' : World) : Prop :=
 en = .returned (.tuple #[]) ∧ ∃ (SC' : List (List Nme)) (E' : List (Value × Value)) (fd' : Nme → Prop) (nf' : Nat), FrM F m w' bd SC' E' fd' nf' O ∧ SC <+: SC' ∧ SC'.length ≤ SC.length + cs ∧ nf' ≤ nf + cn ∧ (∀ n, fd' n ↔ fd n ∨ Q n) ∧ B4 m w w'
/-- no more than a machine bears -/
structure Bdg (bd : Nme → Nat) (SC : List (List Nme)) (nf cs cn : Nat) : Prop where
 b : ∀ n, bd n + cs ≤ 1099511627776
 s : SC.length + cs ≤ 1099511627776
 n : nf + cn ≤ 1099511627776
/-- look does as it should for lists of so many levels -/
def LkP (F : Nat → Prop) (m f g : Nat) : Prop := ∀ {w : World} {bd : Nme → Nat} {SC : List (List Nme)} {E : List (Value × Value)} {fd : Nme → Prop} {nf : Nat} {O : Value → Prop} {s : Nat} {b : List Nme} {sl : SlT} {L : List Tr}, FrM F m w bd SC E fd nf O → KL F w sl L → (∀ u ∈ L, ¬ Dp g u) → (∀ u ∈ L, ¬ Dp f u) → (∀ u ∈ L, Al Bd4 u) → cnL f L ≤ 1073741824 → SC[s]? = some b → (∀ k, 0 < bd k ↔ k ∈ b) → OpB F w f (cnL f L) O → Bdg bd SC nf (ncL f L) (cnL f L) →
 Calls Tryz.prog 57 #[fV m, sl.val, .int .i64 (s : Int)] w (LkR F m w bd SC fd nf O (FvL b L) (ncL f L) (cnL f L))
/-- and lookBelow for trees -/
def LbP (F : Nat → Prop) (m f g : Nat) : Prop := ∀ {w : World} {bd : Nme → Nat} {SC : List (List Nme)} {E : List (Value × Value)} {fd : Nme → Prop} {nf : Nat} {O : Value → Prop} {s : Nat} {b : List Nme} {x : TC} {u : Tr}, FrM F m w bd SC E fd nf O → Rt F w x u → ¬ Dp g u → ¬ Dp f u → Al Bd4 u → cntF f u ≤ 1073741824 → SC[s]? = some b → (∀ k, 0 < bd k ↔ k ∈ b) → OpB F w f (cntF f u) O → Bdg bd SC nf (ncF f u) (cnL f (ksO u)) →
 Calls Tryz.prog 98 #[fV m, x.val, .int .i64 (s : Int)] w (LkR F m w bd SC fd nf O (FvL (bdO (lbO u) b) (ksO u)) (ncF f u) (cnL f (ksO u)))
theorem cnL_take (f : Nat) (L : List Tr) (k : Nat) : cnL f (L.take k) ≤ cnL f L := by
 have := cnL_append f (L.take k) (L.drop k)
 rw [List.take_append_drop] at this
 omega
theorem ncL_append (f : Nat) (a b : List Tr) : ncL f (a ++ b) = ncL f a + ncL f b := by simp [ncL]
theorem ncL_take (f : Nat) (L : List Tr) (k : Nat) : ncL f (L.take k) ≤ ncL f L := by
 have := ncL_append f (L.take k) (L.drop k)
 rw [List.take_append_drop] at this
 omega
end Sx
end Go.Proofs.YtgpaajolcpgeaaaGreatDoor

namespace Go.Proofs.YtgpaajolcpgeaaaGreatDoor
open Go.RowKit
namespace Sx

theorem fvL_nil {b : List Nme} {n : Nme} : ¬ FvL b [] n := fun ⟨_, h, _⟩ => by cases h
theorem NmL.b4 {F : Nat → Prop} {m : Nat} {w w' : World} {na : Option Addr} {nn : Nat} {l : List Nme} (h : NmL F w na nn l) (k : B4 m w w') (hF : ∀ b, F b → b < m ∨ m + 4 ≤ b) : NmL F w' na nn l := h.kf (k.kf hF)
set_option maxRecDepth 100000 in
set_option maxHeartbeats 6400000 in
theorem lookBelow_step {F : Nat → Prop} {m f g : Nat} (hL : LkP F m f g) : LbP F m f (g + 1) := by
 intro w bd SC E fd nf O s b x u h hx hg hf hB hN hs hb hO hbg
 obtain ⟨lb, ks, rfl⟩ := rt_of hx
 rw [ksO_nd, lbO_nd] at *
 have b0 := below_alloc w (.cells #[.map (some m), .map (some (m + 1)), .map (some (m + 2)), .map (some (m + 3))] 106)
 have b1 := below_alloc (w.alloc (.cells #[.map (some m), .map (some (m + 1)), .map (some (m + 2)), .map (some (m + 3))] 106)) (.cells #[.int .i64 x.k, .string x.nm, .slice x.na x.nn x.nc, .bool x.s, .slice x.a x.l x.c, .slice x.ka x.kn x.kc] 28)
 have y0 := (fb_new w m).b4 (B4.of_below b1) h.lt
 have y1 := vb_new (w.alloc (.cells #[.map (some m), .map (some (m + 1)), .map (some (m + 2)), .map (some (m + 3))] 106)) x
 rw [show (w.alloc (.cells #[.map (some m), .map (some (m + 1)), .map (some (m + 2)), .map (some (m + 3))] 106)).heap.size = w.heap.size + 1 by simp] at y1
 have h1 := (h.below b0).below b1
 have hx1 := rt_below (rt_below hx b0) b1
 have k1 := hide ((B4.of_below (m := m) b0).trans (B4.of_below b1))
 have hbw : m + 4 ≤ w.heap.size := h.lt
 have hO1 := (hO.kf (Kf.of_below b0)).kf (Kf.of_below b1)
 clear h hx b0 b1 hO
 go_enter Tryz.func98, Tryz.ntmps98
 iterate 8 (first | go_skip | go_guarded | go_step | go_upon | go_simp)
 generalize (w.alloc (.cells #[.map (some m), .map (some (m + 1)), .map (some (m + 2)), .map (some (m + 3))] 106)).alloc (.cells #[.int .i64 x.k, .string x.nm, .slice x.na x.nn x.nc, .bool x.s, .slice x.a x.l x.c, .slice x.ka x.kn x.kc] 28) = W at *
 obtain ⟨hrl, hrk⟩ := rt_nd hx1
 have c0 := y1.c0
 have c2 := y1.c2
 have c5 := y1.c5
 generalize w.heap.size = bw at *
 have hbu2 : m + 4 ≤ bw + 1 := by omega
 generalize bw + 1 = bu at *
 by_cases hkn : x.kn = 0
 ·have hz : ((x.kn : Int) == 0) = true := by simp [hkn]
  have hks : ks = [] := List.length_eq_zero_iff.1 (hrk.1.trans hkn)
  have hfin : Hid (LkR F m w bd SC fd nf O (FvL (bdO lb b) ks) (ncF f (nd lb ks)) (cnL f ks) (.returned (.tuple #[])) W) := hide ⟨rfl, SC, E, fd, nf, h1, List.prefix_refl _, Nat.le_add_right _ _, Nat.le_add_right _ _, fun n => ⟨.inl, fun h => h.resolve_right (by rw [hks]; exact fvL_nil)⟩, k1.out⟩
  clear h1 hx1 k1 hO1 hrl hrk y0 y1 c0 c2
  go_wp2
  refine bodyPost_ret (results_none rfl _ _ _) rfl ?_
  exact hfin.out
 ·have hz : ((x.kn : Int) == 0) = false := by simpa using hkn
  have hqn := hide (isQuantifier_n x.k W)
  have hcs := cnt_self hf
  have hns := nc_self hf
  rw [ksO_nd] at hcs hns
  rw [lbO_nd] at hns
  have hBl := hB.self
  rw [lbO_nd] at hBl
  replace hO1 := hide hO1
  replace h1 := hide h1
  replace hrk := hide hrk
  replace hrl := hide hrl
  replace y0 := hide y0
  replace y1 := hide y1
  replace hbg := hide hbg
  clear hx1
  go_wp2_with fail
  refine hqn.out.mono ?_
  rintro e w' ⟨rfl, rfl⟩
  clear hqn
  go_upto_if 20 with (fail)
  go_cut [6] (fun t6 wc => ∃ (na : Option Addr) (nn nc : Nat) (l : List Nme), t6 = .slice na nn nc ∧ Hid (NmL F W na nn l) ∧ Hid (bdO lb b = l ++ b) ∧ Hid (l.length ≤ lb.nms.length ∧ ∀ n ∈ l, n.size ≤ 1073741824) ∧ wc = W)
  case first =>
   clear c5
   obtain ⟨q, hq⟩ : ∃ q, qnt x.k = q := ⟨_, rfl⟩
   rw [hq]
   have hlk := hrl.out.k
   cases q with
   | false =>
    have r1 : Hid (bdO lb b = [] ++ b) := hide (by unfold bdO; rw [hlk, hq]; rfl)
    clear hq hlk
    go_wp2
    go_meet
    case rel => exact ⟨none, 0, 0, [], rfl, hide (nmL_nil _ _ _), r1, hide ⟨Nat.zero_le _, fun n h => by cases h⟩, rfl⟩
   | true =>
    have r1 : Hid (bdO lb b = lb.nms ++ b) := hide (by unfold bdO; rw [hlk, hq]; rfl)
    clear hq hlk
    go_wp2
    go_meet
    case rel => exact ⟨_, _, _, lb.nms, rfl, hide hrl.out.nms, r1, hide ⟨Nat.le_refl _, hBl.ns⟩, rfl⟩
  case rest =>
   obtain ⟨na, nn, nc, l, rfl, hnm, hbo, hl, rfl⟩ := hcut
   clear c0 c2 c5 hrl
   have hnn : l.length = nn := hnm.out.1
   have hnb : nn ≤ 1073741824 := by rw [← hnn]; exact Nat.le_trans hl.out.1 hBl.nn
   have hF := h1.out.hF
   replace hnn := hide hnn
   go_wp2_with fail
   go_loopw [2, 25] (fun v i wr => ∃ (j s' : Nat) (SC' : List (List Nme)) (b' : List Nme), j ≤ nn ∧ i = .int .i64 j ∧ v = .int .i64 (s' : Int) ∧ Hid (FrM F m wr (bdC bd (l.take j)) SC' E fd nf O) ∧ Hid (SC <+: SC' ∧ SC'.length ≤ SC.length + j ∧ SC'[s']? = some b' ∧ ∀ n, n ∈ b' ↔ n ∈ l.take j ∨ n ∈ b) ∧ Hid (B4 m wc wr)) (fun _ i _ => nn - (intOf i).toNat)
   case atStart => exact ⟨0, s, SC, b, Nat.zero_le _, rfl, rfl, by rw [List.take_zero, bdC_nil]; exact h1, hide ⟨List.prefix_refl _, Nat.le_refl _, hs, fun n => by simp⟩, hide (B4.refl _ _)⟩
   case round =>
    obtain ⟨j, s', SC', b', hj, rfl, rfl, h2, hq, k2⟩ := hrel
    by_cases hjn : j < nn
    ·have hlt : decide ((j : Int) < (nn : Int)) = true := by
      rw [decide_eq_true_eq]
      omega
     have hi2 : (j : Int) < (nn : Int) := by omega
     have hjL : j < l.length := by rw [hnn.out]; exact hjn
     obtain ⟨n0, hn0⟩ : ∃ n0, l[j] = n0 := ⟨_, rfl⟩
     obtain ⟨bn, off, rfl, hFn, hbn, hcn⟩ := (hnm.out.b4 k2.out hF).2.resolve_left (show ¬ nn = 0 by omega)
     have ct : wr.cell? ⟨bn, off + j, none⟩ = some (.string n0) := by rw [← hn0]; exact hcn j hjL
     have htk : l.take (j + 1) = l.take j ++ [n0] := by rw [List.take_succ_eq_append_getElem hjL, hn0]
     have hsz : n0.size ≤ 1073741824 := hl.out.2 n0 (hn0 ▸ List.getElem_mem hjL)
     obtain ⟨hq1, hq2, hq3, hq4⟩ := hq.out
     have hlen : l.length ≤ lb.nms.length := hl.out.1
     have hct : ctN n0 (l.take j) ≤ l.length := Nat.le_trans (ctN_le _ _) (by rw [List.length_take]; omega)
     have hbd : bdC bd (l.take j) n0 ≤ 1099511627776 := by
      have := hbg.out.b n0
      unfold bdC
      omega
     have hSC : SC'.length ≤ 1099511627776 := by
      have := hbg.out.s
      omega
     have hbn := hide (bind_n h2.out hq3 (fun k => (bdC_pos hb k).trans (hq4 k).symm) hsz hbd hSC)
     have fb := y0.out.b4 k2.out hbw
     have a0 := fb.c0
     have a1 := fb.c1
     have a2 := fb.c2
     have a3 := fb.c3
     have hwj : IntKind.i64.wrap ((j : Int) + 1) = ((j + 1 : Nat) : Int) := by
      rw [IntKind.wrap_i64]
      omega
     clear hcn hn0 fb h2 h1 hbg hO1 hrk hbd hSC hct
     go_wp2_with fail
     refine hbn.out.mono ?_
     rintro e w3 ⟨s3, SC3, b3, rfl, h3, e1, e2, e3, e4, k3⟩
     rw [bdC_up, ← htk] at h3
     have k4 := hide (k2.out.trans k3)
     replace h3 := hide h3
     have hq5 : Hid (SC <+: SC3 ∧ SC3.length ≤ SC.length + (j + 1) ∧ SC3[s3]? = some b3 ∧ ∀ n, n ∈ b3 ↔ n ∈ l.take (j + 1) ∨ n ∈ b) := hide ⟨hq1.trans e1, by omega, e3, fun n => by
      rw [e4, hq4, htk, List.mem_append, List.mem_singleton]
      constructor
      ·rintro (h | h | h)
       ·exact .inl (.inr h)
       ·exact .inl (.inl h)
       ·exact .inr h
      ·rintro ((h | h) | h)
       ·exact .inr (.inl h)
       ·exact .inl h
       ·exact .inr (.inr h)⟩
     clear hbn k2 k3 hq e1 e2 e3 e4 hq1 hq2 hq3 hq4 a0 a1 a2 a3 ct
     go_wp2
     go_roundw
     case measure => simp [intOf]; omega
     case rel => exact ⟨j + 1, s3, SC3, b3, by omega, rfl, rfl, h3, hq5, k4⟩
    ·obtain rfl : j = nn := by omega
     have hlt : decide ((j : Int) < (j : Int)) = false := by simp
     rw [show l.take j = l by rw [← hnn.out]; exact List.take_length] at h2 hq
     have kf2 := k2.out.kf hF
     have hkl2 := KL.kf (s := ⟨x.ka, x.kn, x.kc⟩) hrk.out kf2
     have vb2 := k2.out.vb y1.out (.inr hbu2)
     have fb2 := y0.out.b4 k2.out hbw
     have c5 := vb2.c5
     have hax : x.kn = 0 ∨ ∃ b off, x.ka = some ⟨b, off, none⟩ := hkl2.2.imp id fun ⟨b, off, e, _⟩ => ⟨b, off, e⟩
     have hsp := hide (spanOf_n wr x.ka x.kn x.kc hax)
     rw [if_neg hkn] at hsp
     unfold spV at hsp
     have hO2 := hide (hO1.out.kf kf2)
     replace hkl2 := hide hkl2
     replace vb2 := hide vb2
     replace fb2 := hide fb2
     clear hax kf2 h1 hO1 hrk y0 y1
     go_wp2_with fail
     refine hsp.out.mono ?_
     rintro e w2 ⟨rfl, k3⟩
     have b3 := below_alloc w2 (.cells #[.pointer x.ka, .int .i64 (x.kn : Int), .int .i64 (s' : Int)] 172)
     have n3 := heap_alloc_new w2 (.cells #[.pointer x.ka, .int .i64 (x.kn : Int), .int .i64 (s' : Int)] 172)
     have k4 := grow_step b3 k3
     have h3 := h2.out.below k4
     have hkl3 := KL.kf hkl2.out (Kf.of_below k4)
     have vb3 := hide (vb2.out.below k4)
     have fb3 := fb2.out.b4 (B4.of_below k4) hbw
     have hO3 := hide (hO2.out.kf (Kf.of_below k4))
     have k5 := hide (k2.out.trans (B4.of_below k4))
     obtain ⟨hq1, hq2, hq3, hq4⟩ := hq.out
     have hu3 : Un F (w2.alloc (.cells #[.pointer x.ka, .int .i64 (x.kn : Int), .int .i64 (s' : Int)] 172)) x.ka := by
      obtain ⟨b, off, e, hF, hu, -⟩ := hkl3.2.resolve_left hkn
      exact .inr ⟨b, off, e, hF, hu⟩
     have hnO := hO3.out.not (s := (s' : Int)) hkl3 (by omega)
     have hsn := hide (h3.seen (sl := ⟨x.ka, x.kn, x.kc⟩) s' hu3 hkl3 hnO hq3)
     have b4 := below_alloc (w2.alloc (.cells #[.pointer x.ka, .int .i64 (x.kn : Int), .int .i64 (s' : Int)] 172)) (.cells #[] 92)
     have a2 := fb3.c2
     have d0 := cell_of_row _ w2.heap.size 0 _ _ (0, 0) n3
     have d1 := cell_of_row _ w2.heap.size 1 _ _ (0, 0) n3
     have d2 := cell_of_row _ w2.heap.size 2 _ _ (0, 0) n3
     have h4 := hide (h3.below b4)
     have hkl4 := hide (KL.kf hkl3 (Kf.of_below b4))
     have vb4 := hide (vb3.out.below b4)
     have fb4 := hide (fb3.b4 (B4.of_below b4) hbw)
     have hO4 := hide (hO3.out.kf (Kf.of_below b4))
     have k6 := hide (k5.out.trans (B4.of_below b4))
     have hu4 := hide (hu3.kept fun b _ hu => b4.block b hu.lt)
     have n4 := hide ((b4.block w2.heap.size (lt_of_block n3)).trans n3)
     have hsz : Hid (m + 4 ≤ w2.heap.size) := hide (Nat.le_trans hbw (Nat.le_trans (Nat.le_of_lt fb2.out.lt) k3.size))
     have hgs : ∀ n, n ∈ b' ↔ n ∈ bdO lb b := fun n => by rw [hq4, hbo.out, List.mem_append]
     have hall : Hid (∀ n, FvL b' ks n ↔ FvL (bdO lb b) ks n) := hide fun n => fvL_congr hgs
     have hpos : Hid (∀ k, 0 < bdC bd l k ↔ k ∈ b') := hide fun k => (bdC_pos hb k).trans (hq4 k).symm
     have hbg2 : Hid (Bdg (bdC bd l) SC' nf (ncL f ks) (cnL f ks)) := hide ⟨fun n => by
       have := hbg.out.b n
       have := ctN_le n l
       have := hl.out.1
       unfold bdC
       omega, by
       have := hbg.out.s
       have := hl.out.1
       have := hnn.out
       omega, hbg.out.n⟩
     clear hsp k3 b3 n3 k4 h3 hkl3 vb3 fb3 hO3 k5 hu3 hnO b4 h2 hkl2 vb2 fb2 hO2 k2 hgs
     obtain ⟨ok, hlk, hfd⟩ : ∃ ok : Bool, (Instr.lookup 103 (.map (some (m + 2))) (.agg #[.pointer x.ka, .int .i64 (x.kn : Int), .int .i64 (s' : Int)]) true).run Tryz.prog (w2.alloc (.cells #[.pointer x.ka, .int .i64 (x.kn : Int), .int .i64 (s' : Int)] 172)) = .ok (.tuple #[.agg #[], .bool ok]) (w2.alloc (.cells #[.pointer x.ka, .int .i64 (x.kn : Int), .int .i64 (s' : Int)] 172)) ∧ Hid (ok = true → ∀ n, FvL b' ks n → fd n) := by
      rcases hsn.out with h | ⟨h, h'⟩
      ·exact ⟨false, h, hide fun e => absurd e (by decide)⟩
      ·exact ⟨true, h, hide fun _ => h'⟩
     clear hsn
     go_upto_if 47 with (fail)
     clear hlk a2 d0 d1 d2 c5
     generalize (w2.alloc (.cells #[.pointer x.ka, .int .i64 (x.kn : Int), .int .i64 (s' : Int)] 172)).alloc (.cells #[] 92) = W4 at *
     generalize w2.heap.size = bz at *
     go_cut [] (fun wd => ∃ (SC2 : List (List Nme)) (E2 : List (Value × Value)) (fd2 : Nme → Prop) (nf2 : Nat), Hid (FrM F m wd (bdC bd l) SC2 E2 fd2 nf2 O) ∧ Hid (SC <+: SC2 ∧ SC2.length ≤ SC.length + ncF f (nd lb ks) ∧ nf2 ≤ nf + cnL f ks ∧ ∀ n, fd2 n ↔ fd n ∨ FvL (bdO lb b) ks n) ∧ Hid (B4 m W4 wd))
     case first =>
      have hll := hl.out.1
      have hnl := hnn.out
      cases ok with
      | true =>
       go_wp2
       go_meet
       case rel => exact ⟨SC', E, fd, nf, h4, hide ⟨hq1, by omega, Nat.le_add_right _ _, fun n => ⟨.inl, fun h => h.elim id fun h => hfd.out (by first | rfl | trivial) n ((hall.out n).2 h)⟩⟩, hide (B4.refl _ _)⟩
      | false =>
       obtain ⟨w5, E5, hrun, h5, g5⟩ := h4.out.open1 (sl := ⟨x.ka, x.kn, x.kc⟩) s' hu4.out hkl4.out hq3
       unfold vwV at hrun
       have kg := B4.of_grown (m := m) g5 (by omega) (by omega)
       have fb5 := fb4.out.b4 kg hbw
       have vb5 := kg.vb vb4.out (.inr hbu2)
       have hkl5 := KL.kf hkl4.out (kg.kf hF)
       have hO5 : OpB F w5 f (cnL f ks) (fun v => O v ∨ v = vwV x.ka x.kn (s' : Int)) := fun v hv => by
        rcases hv with hv | rfl
        ·exact ((hO4.out.kf (kg.kf hF)).mono (by omega)) v hv
        ·exact ⟨⟨x.ka, x.kn, x.kc⟩, ks, s', rfl, hkl5, Nat.le_refl _⟩
       have hlk := hide (hL h5 hkl5 (fun u hu ⟨v, hv⟩ => hg ⟨v, u, by rw [ksO_nd]; exact hu, hv⟩) (fun u hu => dp_kid hf (by rw [ksO_nd]; exact hu)) (fun u hu => hB.kid (by rw [ksO_nd]; exact hu)) (by omega) hq3 hpos.out hO5 hbg2.out)
       have a2 := fb4.out.c2
       have d0 := cell_of_row _ bz 0 _ _ (0, 0) n4.out
       have d1 := cell_of_row _ bz 1 _ _ (0, 0) n4.out
       have d2 := cell_of_row _ bz 2 _ _ (0, 0) n4.out
       have e0 := fb5.c0
       have e1 := fb5.c1
       have e2 := fb5.c2
       have e3 := fb5.c3
       have e5 := vb5.c5
       replace kg := hide kg
       replace hkl5 := hide hkl5
       clear fb5 vb5 hO5 h5 g5
       go_wp2_with fail
       refine hlk.out.mono ?_
       rintro e w6 ⟨rfl, SC6, E6, fd6, nf6, h6, i1, i2, i3, i4, k7⟩
       have hs6 : FrM F m w6 (bdC bd l) SC6 E6 fd6 nf6 O := h6.shut1 (sl := ⟨x.ka, x.kn, x.kc⟩) (KL.kf hkl5.out (k7.kf hF)) (pre_get i1 hq3) fun n hn => (i4 n).2 (.inr hn)
       have r1 := hide hs6
       have r2 : Hid (SC <+: SC6 ∧ SC6.length ≤ SC.length + ncF f (nd lb ks) ∧ nf6 ≤ nf + cnL f ks ∧ ∀ n, fd6 n ↔ fd n ∨ FvL (bdO lb b) ks n) := hide ⟨hq1.trans i1, by omega, i3, fun n => by rw [i4, hall.out]⟩
       have r3 := hide (kg.out.trans k7)
       clear hlk h6 i1 i2 i3 i4 k7 hs6 a2 d0 d1 d2 e0 e1 e2 e3 e5 hrun kg hkl5
       go_wp2
       go_meet
       case rel => exact ⟨SC6, E6, fd6, nf6, r1, r2, r3⟩
     case rest =>
      obtain ⟨SC2, E2, fd2, nf2, h7, hr, k7⟩ := hcut
      have k8 := hide ((k1.out.trans k6.out).trans k7.out)
      have hnm2 := hide (hnm.out.b4 (k6.out.trans k7.out) hF)
      have fb7 := hide (fb4.out.b4 k7.out hbw)
      clear h4 hkl4 vb4 fb4 hO4 hu4 n4 hall hpos hbg2 hfd k1 k6 k7 hnm hq hq1 hq2 hq3 hq4 hsz
      go_wp2_with fail
      go_loopw [59] (fun i wr => ∃ (i' : Nat), i' ≤ j ∧ i = .int .i64 i' ∧ Hid (FrM F m wr (bdC bd (l.drop i')) SC2 E2 fd2 nf2 O) ∧ Hid (B4 m wc wr)) (fun i _ => j - (intOf i).toNat)
      case atStart => exact ⟨0, Nat.zero_le _, rfl, by rw [List.drop_zero]; exact h7, hide (B4.refl _ _)⟩
      case round =>
       clear h7
       obtain ⟨i, hi, rfl, h8, k9⟩ := hrel
       by_cases hin : i < j
       ·have hlt2 : decide ((i : Int) < (j : Int)) = true := by
         rw [decide_eq_true_eq]
         omega
        have hi2 : (i : Int) < (j : Int) := by omega
        have hiL : i < l.length := by rw [hnn.out]; exact hin
        obtain ⟨n0, hn0⟩ : ∃ n0, l[i] = n0 := ⟨_, rfl⟩
        obtain ⟨bn, off, rfl, hFn, hbn, hcn⟩ := (hnm2.out.b4 k9.out hF).2.resolve_left (show ¬ j = 0 by omega)
        have ct : wr.cell? ⟨bn, off + i, none⟩ = some (.string n0) := by rw [← hn0]; exact hcn i hiL
        have hdr : l.drop i = n0 :: l.drop (i + 1) := by rw [List.drop_eq_getElem_cons hiL, hn0]
        have hsz : n0.size ≤ 1073741824 := hl.out.2 n0 (hn0 ▸ List.getElem_mem hiL)
        rw [hdr] at h8
        obtain ⟨c, hc⟩ : ∃ c, bdC bd (n0 :: l.drop (i + 1)) n0 = c + 1 := ⟨bdC bd (n0 :: l.drop (i + 1)) n0 - 1, by
         unfold bdC
         rw [ctN_cons, if_pos rfl]
         omega⟩
        have hcb : c ≤ 1099511627776 := by
         have := hbg.out.b n0
         have h2 := ctN_le n0 (n0 :: l.drop (i + 1))
         have := hl.out.1
         rw [List.length_cons, List.length_drop] at h2
         unfold bdC at hc
         omega
        have hcnt := h8.out.count hsz
        obtain ⟨c1, hc1⟩ : ∃ c1, Hid (c1 = c + 1) := ⟨_, hide rfl⟩
        rw [hc, ← hc1.out] at hcnt
        obtain ⟨w9, hrun, h9, g9⟩ := h8.out.bump hsz c
        rw [bdC_down bd _ n0 hc] at h9
        have k10 := hide (k9.out.trans (B4.of_grown (m := m) g9 (Nat.le_refl _) (by omega)))
        have fb9 := fb7.out.b4 k9.out hbw
        have a0 := fb9.c0
        have hws : IntKind.i64.wrap ((c1 : Int) - 1) = (c : Int) := by
         rw [IntKind.wrap_i64, hc1.out]
         omega
        have hwi : IntKind.i64.wrap ((i : Int) + 1) = ((i + 1 : Nat) : Int) := by
         rw [IntKind.wrap_i64]
         omega
        replace h9 := hide h9
        replace hc := hide hc
        clear fb9 h8 hcn hn0 g9 hdr
        go_wp2
        go_roundw
        case measure => simp [intOf]; omega
        case rel => exact ⟨i + 1, by omega, rfl, h9, k10⟩
       ·obtain rfl : i = j := by omega
        have hlt2 : decide ((i : Int) < (i : Int)) = false := by simp
        rw [show l.drop i = [] by rw [← hnn.out]; exact List.drop_length, bdC_nil] at h8
        have hfin : Hid (LkR F m w bd SC fd nf O (FvL (bdO lb b) ks) (ncF f (nd lb ks)) (cnL f ks) (.returned (.tuple #[])) wr) := hide ⟨rfl, SC2, E2, fd2, nf2, h8.out, hr.out.1, hr.out.2.1, hr.out.2.2.1, hr.out.2.2.2, k8.out.trans k9.out⟩
        clear h8 k9 k8 hr hnm2 fb7
        go_wp2
        refine bodyPost_ret (results_none rfl _ _ _) rfl ?_
        exact hfin.out
end Sx
end Go.Proofs.YtgpaajolcpgeaaaGreatDoor

namespace Go.Proofs.YtgpaajolcpgeaaaGreatDoor
open Go.RowKit
namespace Sx

set_option maxRecDepth 100000 in
set_option maxHeartbeats 6400000 in
theorem look_step {F : Nat → Prop} {m f g : Nat} (hL : LbP F m f g) : LkP F m f g := by
 intro w bd SC E fd nf O s b sl L h hk hg hf hB hN hs hb hO hbg
 obtain ⟨ka, kn, kc⟩ := sl
 change Calls Tryz.prog 57 #[fV m, .slice ka kn kc, .int .i64 (s : Int)] w _
 have b0 := below_alloc w (.cells #[.map (some m), .map (some (m + 1)), .map (some (m + 2)), .map (some (m + 3))] 106)
 have y0 := fb_new w m
 have h1 := hide (h.below b0)
 have hk1 := hide (KL.kf hk (Kf.of_below b0))
 have k1 := hide (B4.of_below (m := m) b0)
 have hbw : m + 4 ≤ w.heap.size := h.lt
 have hO1 := hide (hO.kf (Kf.of_below b0))
 have hLn : L.length = kn := hk.1
 have hF := h.hF
 replace hLn := hide hLn
 have hkn : kn ≤ 1073741824 := by rw [← hLn.out]; exact Nat.le_trans (len_le_cnL hf) hN
 replace y0 := hide y0
 clear h hk b0 hO
 go_enter Tryz.func57, Tryz.ntmps57
 go_wp2_with fail
 generalize w.alloc (.cells #[.map (some m), .map (some (m + 1)), .map (some (m + 2)), .map (some (m + 3))] 106) = W at *
 generalize w.heap.size = bw at *
 go_loopw [10] (fun i wr => ∃ (j : Nat) (SC' : List (List Nme)) (E' : List (Value × Value)) (fd' : Nme → Prop) (nf' : Nat), j ≤ kn ∧ i = .int .i64 j ∧ Hid (FrM F m wr bd SC' E' fd' nf' O) ∧ Hid (SC <+: SC' ∧ SC'.length ≤ SC.length + ncL f (L.take j) ∧ nf' ≤ nf + cnL f (L.take j) ∧ ∀ n, fd' n ↔ fd n ∨ FvL b (L.take j) n) ∧ Hid (B4 m W wr)) (fun i _ => kn - (intOf i).toNat)
 case atStart => exact ⟨0, SC, E, fd, nf, Nat.zero_le _, rfl, h1, hide ⟨List.prefix_refl _, Nat.le_add_right _ _, Nat.le_add_right _ _, fun n => ⟨.inl, fun h => h.resolve_right (by rw [List.take_zero]; exact fvL_nil)⟩⟩, hide (B4.refl _ _)⟩
 case round =>
  obtain ⟨j, SC', E', fd', nf', hj, rfl, h2, hq, k2⟩ := hrel
  by_cases hjn : j < kn
  ·have hlt : decide ((j : Int) < (kn : Int)) = true := by
    rw [decide_eq_true_eq]
    omega
   have hi2 : (j : Int) < (kn : Int) := by omega
   have hjL : j < L.length := by rw [hLn.out]; exact hjn
   obtain ⟨u, hu⟩ : ∃ u, L[j] = u := ⟨_, rfl⟩
   have hmem : u ∈ L := hu ▸ List.getElem_mem hjL
   have htk : L.take (j + 1) = L.take j ++ [u] := by rw [List.take_succ_eq_append_getElem hjL, hu]
   have kf2 := k2.out.kf hF
   obtain ⟨ba, offa, rfl, hFa, hUa, hca⟩ := (KL.kf hk1.out kf2).2.resolve_left (show ¬ kn = 0 by omega)
   obtain ⟨x, hcx, hx⟩ := hca j hjL
   rw [hu] at hx
   have e0 : wr.cell? ⟨ba, offa + j * 6, none⟩ = some (.int .i64 x.k) := hcx 0 (by decide)
   have e1 : wr.cell? ⟨ba, offa + j * 6 + 1, none⟩ = some (.string x.nm) := hcx 1 (by decide)
   have e2 : wr.cell? ⟨ba, offa + j * 6 + 2, none⟩ = some (.slice x.na x.nn x.nc) := hcx 2 (by decide)
   have e3 : wr.cell? ⟨ba, offa + j * 6 + 3, none⟩ = some (.bool x.s) := hcx 3 (by decide)
   have e4 : wr.cell? ⟨ba, offa + j * 6 + 4, none⟩ = some (.slice x.a x.l x.c) := hcx 4 (by decide)
   have e5 : wr.cell? ⟨ba, offa + j * 6 + 5, none⟩ = some (.slice x.ka x.kn x.kc) := hcx 5 (by decide)
   have b3 := below_alloc wr (.cells #[.int .i64 x.k, .string x.nm, .slice x.na x.nn x.nc, .bool x.s, .slice x.a x.l x.c, .slice x.ka x.kn x.kc] 28)
   have y3 := vb_new wr x
   have h3 := h2.out.below b3
   have hx3 := rt_below hx b3
   have fb3 := (y0.out.b4 k2.out hbw).b4 (B4.of_below b3) hbw
   have k3 := hide (k2.out.trans (B4.of_below b3))
   have hO3 := (hO1.out.kf kf2).kf (Kf.of_below b3)
   have hbv : m + 4 ≤ wr.heap.size := Nat.le_trans (show m + 4 ≤ m + 3 + 1 by omega) h2.out.lt
   have hwj : IntKind.i64.wrap ((j : Int) + 1) = ((j + 1 : Nat) : Int) := by
    rw [IntKind.wrap_i64]
    omega
   clear hcx hca hFa hUa hx kf2 h2
   go_upto_region 4 with (fail)
   clear e0 e1 e2 e3 e4 e5
   generalize wr.alloc (.cells #[.int .i64 x.k, .string x.nm, .slice x.na x.nn x.nc, .bool x.s, .slice x.a x.l x.c, .slice x.ka x.kn x.kc] 28) = w1 at *
   generalize wr.heap.size = bv at *
   have hBu := (hB u hmem).self
   obtain ⟨lb, ks, hlk⟩ := rt_of hx3
   have hrl : RL F w1 x lb := (rt_nd (hlk ▸ hx3)).1
   have hlb : lbO u = lb := by rw [hlk, lbO_nd]
   have hnm : x.nm.size ≤ 1073741824 := by
    rw [← hrl.nm, ← hlb]
    exact hBu.nm
   have hxk : (lbO u).k = x.k := by rw [hlb]; exact hrl.k
   have hxn : (lbO u).nm = x.nm := by rw [hlb]; exact hrl.nm
   have hcnt := h3.count hnm
   have c0 := y3.c0
   have c1 := y3.c1
   have a0 := fb3.c0
   have a3 := fb3.c3
   obtain ⟨hq1, hq2, hq3, hq4⟩ := hq.out
   have hd0 := cnt_self (hf u hmem)
   have hn0 := nc_self (hf u hmem)
   have ht1 := cnL_take f L (j + 1)
   have ht2 := ncL_take f L (j + 1)
   rw [htk, cnL_snoc] at ht1
   rw [htk, ncL_snoc] at ht2
   have hb1 := hbg.s
   have hb2 := hbg.n
   replace hq4 := hide hq4
   replace h3 := hide h3
   replace y3 := hide y3
   replace fb3 := hide fb3
   replace hx3 := hide hx3
   replace hxk := hide hxk
   replace hxn := hide hxn
   replace hO3 := hide hO3
   clear hq hlk hrl hlb hBu b3 hu
   obtain ⟨cb, hcb⟩ : ∃ cb : Bool, Hid (cb = true ↔ x.k = 2 ∧ bd x.nm = 0) := ⟨decide (x.k = 2 ∧ bd x.nm = 0), hide decide_eq_true_iff⟩
   go_cut [24] (fun t24 wc => t24 = .bool cb ∧ wc = w1)
   case first =>
    by_cases hk2 : x.k = 2
    ·have hkb : (x.k == 2) = true := by simpa using hk2
     by_cases h0 : bd x.nm = 0
     ·have h0b : ((bd x.nm : Int) == 0) = true := by simp [h0]
      have hcc : cb = true := hcb.out.2 ⟨hk2, h0⟩
      subst hcc
      clear hcb h0 hk2
      go_wp2
      go_meet
      case rel => exact ⟨rfl, rfl⟩
     ·have h0b : ((bd x.nm : Int) == 0) = false := by simpa using h0
      have hcc : cb = false := by
       rw [← Bool.not_eq_true, hcb.out]
       exact fun h => h0 h.2
      subst hcc
      clear hcb h0 hk2
      go_wp2
      go_meet
      case rel => exact ⟨rfl, rfl⟩
    ·have hkb : (x.k == 2) = false := by simpa using hk2
     have hcc : cb = false := by
      rw [← Bool.not_eq_true, hcb.out]
      exact fun h => hk2 h.1
     subst hcc
     clear hcb hk2
     go_wp2
     go_meet
     case rel => exact ⟨rfl, rfl⟩
   case rest =>
    obtain ⟨rfl, rfl⟩ := hcut
    clear hcnt a0 c0
    go_upto_if 24 with (fail)
    go_cut [] (fun wd => ∃ (fd2 : Nme → Prop) (nf2 : Nat), Hid (FrM F m wd bd SC' E' fd2 nf2 O) ∧ nf2 ≤ nf' + 1 ∧ Hid (∀ n, fd2 n ↔ fd' n ∨ ((lbO u).k = 2 ∧ n = (lbO u).nm ∧ n ∉ b)) ∧ Hid (B4 m wc wd))
    case first =>
     have hcc := hcb.out
     cases cb with
     | true =>
      obtain ⟨w4, hrun, h4, g4⟩ := h3.out.find hnm (by unfold maxLen; omega)
      have r1 := hide h4
      have r2 : Hid (∀ n, (fd' n ∨ n = x.nm) ↔ fd' n ∨ ((lbO u).k = 2 ∧ n = (lbO u).nm ∧ n ∉ b)) := hide fun n => by
       obtain ⟨e1, e2⟩ := hcc.1 rfl
       rw [hxk.out, hxn.out]
       constructor
       ·rintro (h | rfl)
        ·exact .inl h
        ·exact .inr ⟨e1, rfl, fun h => by have := (hb _).2 h; omega⟩
       ·rintro (h | ⟨-, rfl, -⟩)
        ·exact .inl h
        ·exact .inr rfl
      have r3 := hide (B4.of_grown (m := m) g4 (by omega) (by omega))
      clear hcc hcb h4 g4
      go_wp2
      go_meet
      case rel => exact ⟨_, _, r1, Nat.le_refl _, r2, r3⟩
     | false =>
      have r2 : Hid (∀ n, fd' n ↔ fd' n ∨ ((lbO u).k = 2 ∧ n = (lbO u).nm ∧ n ∉ b)) := hide fun n => by
       refine ⟨.inl, fun h => h.elim id ?_⟩
       rintro ⟨e1, rfl, e3⟩
       rw [hxk.out] at e1
       rw [hxn.out] at e3
       refine absurd (hcc.2 ⟨e1, ?_⟩) (by decide)
       rcases Nat.eq_zero_or_pos (bd x.nm) with h | h
       ·exact h
       ·exact absurd ((hb _).1 h) e3
      clear hcc hcb
      go_wp2
      go_meet
      case rel => exact ⟨_, _, h3, Nat.le_succ _, r2, hide (B4.refl _ _)⟩
    case rest =>
     obtain ⟨fd2, nf2, h4, hnf2, hr, k4⟩ := hcut
     have fb4 := fb3.out.b4 k4.out hbw
     have vb4 := k4.out.vb y3.out (.inr hbv)
     have hx4 := hx3.out.kf (k4.out.kf hF)
     have hO4 := (hO3.out.kf (k4.out.kf hF)).mono (N' := cntF f u) (by omega)
     have hbg4 : Bdg bd SC' nf2 (ncF f u) (cnL f (ksO u)) := ⟨fun n => by have := hbg.b n; omega, by omega, by omega⟩
     have hcl := hide (hL h4.out hx4 (hg u hmem) (hf u hmem) (hB u hmem) (by omega) (pre_get hq1 hs) hb hO4 hbg4)
     have a0 := fb4.c0
     have a1 := fb4.c1
     have a2 := fb4.c2
     have a3' := fb4.c3
     have e0 := vb4.c0
     have e1 := vb4.c1
     have e2 := vb4.c2
     have e3 := vb4.c3
     have e4 := vb4.c4
     have e5 := vb4.c5
     clear fb4 vb4 hx4 hO4 hbg4 c1 a3
     go_wp2_with fail
     refine hcl.out.mono ?_
     rintro e w6 ⟨rfl, SC6, E6, fd6, nf6, h6, i1, i2, i3, i4, k6⟩
     have r1 := hide h6
     have r2 : Hid (SC <+: SC6 ∧ SC6.length ≤ SC.length + ncL f (L.take (j + 1)) ∧ nf6 ≤ nf + cnL f (L.take (j + 1)) ∧ ∀ n, fd6 n ↔ fd n ∨ FvL b (L.take (j + 1)) n) := hide ⟨hq1.trans i1, by rw [htk, ncL_snoc]; omega, by rw [htk, cnL_snoc]; omega, fun n => by
      rw [i4, hr.out, hq4.out, htk, fvL_snoc, fv_iff]
      unfold FvL
      constructor
      ·rintro (((h | h) | h) | h)
       ·exact .inl h
       ·exact .inr (.inl h)
       ·exact .inr (.inr (.inl h))
       ·exact .inr (.inr (.inr h))
      ·rintro (h | h | h | h)
       ·exact .inl (.inl (.inl h))
       ·exact .inl (.inl (.inr h))
       ·exact .inl (.inr h)
       ·exact .inr h⟩
     have r3 := hide ((k3.out.trans k4.out).trans k6)
     clear hcl h6 i1 i2 i3 i4 k6 a0 a1 a2 a3' e0 e1 e2 e3 e4 e5 k3 k4 h4 hr h3 hq4 y3 fb3 hx3 hO3
     go_wp2
     go_roundw
     case measure => simp [intOf]; omega
     case rel => exact ⟨j + 1, SC6, E6, fd6, nf6, by omega, rfl, r1, r2, r3⟩
  ·obtain rfl : j = kn := by omega
   have hlt : decide ((j : Int) < (j : Int)) = false := by simp
   rw [show L.take j = L by rw [← hLn.out]; exact List.take_length] at hq
   have hfin : Hid (LkR F m w bd SC fd nf O (FvL b L) (ncL f L) (cnL f L) (.returned (.tuple #[])) wr) := hide ⟨rfl, SC', E', fd', nf', h2.out, hq.out.1, hq.out.2.1, hq.out.2.2.1, hq.out.2.2.2, k1.out.trans k2.out⟩
   clear h2 hq k2 k1 hk1 h1 hO1 y0
   go_wp2
   refine bodyPost_ret (results_none rfl _ _ _) rfl ?_
   exact hfin.out
theorem lookBelow_n (F : Nat → Prop) (m f : Nat) (g : Nat) : LbP F m f g := by
 induction g with
 | zero =>
  intro w bd SC E fd nf O s b x u h hx hg
  exact absurd ⟨u, rfl⟩ hg
 | succ g ih => exact lookBelow_step (look_step ih)
/-- LOOK FINDS THE FREE NAMES, whatever the depth -/
theorem look_n (F : Nat → Prop) (m f g : Nat) : LkP F m f g := look_step (lookBelow_n F m f g)
end Sx
end Go.Proofs.YtgpaajolcpgeaaaGreatDoor
