/-
 Layer 5: parts in memory, maps of sums, and gather.
-/
import Derived.Test.YtjhhknfnaobmiaaGreatDoorZ2
import Derived.Test.YtjhhknfnaobmiaaGreatDoorY0
import Derived.Maps.RangeWalk
namespace Go.Proofs.YtjhhknfnaobmiaaGreatDoor
open Go.RowKit
open Go.Maps (Keyed)
open Tm

def I64 (v : Int) : Prop := -9223372036854775808 ≤ v ∧ v ≤ 9223372036854775807
theorem i64_wf {v : Int} (h : I64 v) : (Lit.int .i64 v).wf = true := by
 unfold I64 at h
 simp [Lit.wf, IntKind.min, IntKind.max, IntKind.bits, IntKind.signed]
 omega
theorem wf_i64 {v : Int} (h : (Lit.int .i64 v).wf = true) : I64 v := by
 simp [Lit.wf, IntKind.min, IntKind.max, IntKind.bits, IntKind.signed] at h
 unfold I64
 omega

/-- how an element of a map of numbers reads: as it is -/
def elemR : Value → Option (DataW Value × List MemPlace)
 | .agg cs => match cs.toList with
  | [.bool s, .slice a l c] => some (.held (.agg #[.bool s, .slice a l c]), [])
  | _ => none
 | _ => none
theorem elemR_mk (s : Bool) (a : Option Addr) (l c : Nat) : elemR (.agg #[.bool s, .slice a l c]) = some (.held (.agg #[.bool s, .slice a l c]), []) := rfl
theorem elemR_inv {v : Value} {y : DataW Value × List MemPlace} (h : elemR v = some y) : ∃ s a l c, v = .agg #[.bool s, .slice a l c] ∧ y = (.held (.agg #[.bool s, .slice a l c]), []) := by
 unfold elemR at h
 split at h
 ·rename_i cs
  split at h
  ·rename_i s a l c e
   obtain ⟨xs⟩ := cs
   simp only at e
   subst e
   exact ⟨s, a, l, c, rfl, (Option.some.inj h).symm⟩
  ·cases h
 ·cases h

theorem tk : Keyed Tryz.prog 3 := Maps.int_keyed Tryz.underlying3
theorem keyOf_i {v : Int} (h : I64 v) : keyOf Tryz.prog 3 (.int .i64 v) = some (.int .i64 v) := Maps.keyOf_int_mk Tryz.underlying3 (i64_wf h)
theorem isKey_i (v : Int) (h : I64 v) : WideAt.IsKeyLit (.int .i64 v) := tk.key (keyOf_i h)

/-- limbs don't lie where there are no cells -/
theorem Rd.grown {w w' : World} {ad : Option Addr} {len cap : Nat} {zs : List Int} {m : Nat} (h : Rd w ad len cap zs) (hg : w.grownBy w' (Option.some m)) (hm : ∀ off, w.cell? ⟨m, off, none⟩ = none) : Rd w' ad len cap zs := by
 obtain ⟨h1, h2, h3, h4, h5⟩ := h
 refine ⟨h1, h2, h3, h4, ?_⟩
 rcases h5 with h5 | ⟨a, ha, h5⟩
 ·exact .inl h5
 ·refine .inr ⟨a, ha, ?_⟩
  rcases h5 with h5 | ⟨b, off, rfl, hlt, hc⟩
  ·exact .inl h5
  ·by_cases h0 : len = 0
   ·exact .inl h0
   ·have hne : b ≠ m := by
     intro e
     subst e
     have := hc 0 (by omega)
     rw [hm] at this
     cases this
    refine .inr ⟨b, off, rfl, Nat.lt_of_lt_of_le hlt hg.size, fun i hi => ?_⟩
    rw [World.cell?_of_block (a := ⟨b, off + i, none⟩) (hg.block b hlt (by simpa using hne))]
    exact hc i hi
theorem Zn.grown {w w' : World} {s : Bool} {ad : Option Addr} {len cap : Nat} {z : Int} {m : Nat} (h : Zn w s ad len cap z) (hg : w.grownBy w' (some m)) (hm : ∀ off, w.cell? ⟨m, off, none⟩ = none) : Zn w' s ad len cap z := by
 obtain ⟨n, ⟨zs, h1, h2, h3⟩, h4⟩ := h
 exact ⟨n, ⟨zs, h1.grown hg hm, h2, h3⟩, h4⟩
theorem map_nocell {w : World} {m n : Nat} {D : DataW Value} (h : w.ownsMap Tryz.prog 3 elemR m n D) (off : Nat) : w.cell? ⟨m, off, none⟩ = none := by
 obtain ⟨es, clock, hb, _⟩ := h
 simp [World.cell?, hb]

/-- what a map of numbers says of a variable -/
def GA (w : World) (D : DataW Value) (f : Int → Int) (B : Nat) : Prop :=
 ∀ v, I64 v → (Maps.has D (.int .i64 v) = false ∧ f v = 0) ∨ ∃ s a l c, (∀ zd, D.atKey (.int .i64 v) zd = .held (.agg #[.bool s, .slice a l c])) ∧ Zn w s a l c (f v) ∧ l ≤ B
/-- a map of numbers: n entries at most; of the variable v the number f v, of at most B limbs -/
def GM (w : World) (m n : Nat) (f : Int → Int) (B : Nat) : Prop := ∃ D, w.ownsMap Tryz.prog 3 elemR m n D ∧ GA w D f B

theorem GA.kept {w w' : World} {D : DataW Value} {f : Int → Int} {B : Nat} (h : GA w D f B) (hz : ∀ s a l c z, Zn w s a l c z → Zn w' s a l c z) : GA w' D f B := fun v hv => by
 rcases h v hv with h1 | ⟨s, a, l, c, h1, h2, h3⟩
 ·exact .inl h1
 ·exact .inr ⟨s, a, l, c, h1, hz _ _ _ _ _ h2, h3⟩
theorem GM.below {w w' : World} {m n : Nat} {f : Int → Int} {B : Nat} (h : GM w m n f B) (hb : Below w.heap.size w w') : GM w' m n f B := by
 obtain ⟨D, h1, h2⟩ := h
 exact ⟨D, h1.kept (row := none) ⟨hb.os, hb.tape, hb.output, hb.size, fun k hk _ => hb.block k hk⟩ (by simp), h2.kept fun _ _ _ _ _ hz => hz.below hb⟩
theorem GM.lt {w : World} {m n : Nat} {f : Int → Int} {B : Nat} (h : GM w m n f B) : m < w.heap.size := by
 obtain ⟨D, h1, _⟩ := h; exact h1.lt
theorem gm_new (w : World) (B : Nat) : GM (w.alloc (.map #[] 0)) w.heap.size 0 (fun _ => 0) B :=
 ⟨_, World.ownsMap_made w _ _ _, fun _ _ => .inl ⟨rfl, rfl⟩⟩
theorem zn_zero (w : World) : Zn w false none 0 0 0 := ⟨0, ⟨[], ⟨rfl, by decide, by decide, fun z hz => (by cases hz), Or.inl ⟨rfl, rfl, rfl⟩⟩, canon_nil, rfl⟩, rfl, fun h => by cases h⟩

theorem GM.look {w : World} {m n : Nat} {f : Int → Int} {B : Nat} (h : GM w m n f B) {v : Int} (hv : I64 v) :
  ∃ s a l c, (Instr.lookup 86 (.map (some m)) (.int .i64 v) false).run Tryz.prog w = .ok (.agg #[.bool s, .slice a l c]) w ∧ Zn w s a l c (f v) ∧ l ≤ B := by
 obtain ⟨D, h1, h2⟩ := h
 obtain ⟨u, ps, hrun, hu⟩ := h1.lookup tk Tryz.underlying86 (Tryz.zeroValue24 w) (elemR_mk _ _ _ _) (keyOf_i hv)
 obtain ⟨s, a, l, c, rfl, e⟩ := elemR_inv hu
 refine ⟨s, a, l, c, hrun, ?_⟩
 rcases h2 v hv with ⟨h3, h4⟩ | ⟨s', a', l', c', h3, h4, h5⟩
 ·rw [Maps.atKey_of_not_has h3] at e
  simp at e
  obtain ⟨⟨rfl, rfl, rfl, rfl⟩, _⟩ := e
  rw [h4]
  exact ⟨zn_zero w, Nat.zero_le _⟩
 ·rw [h3] at e
  simp at e
  obtain ⟨⟨rfl, rfl, rfl, rfl⟩, _⟩ := e
  exact ⟨h4, h5⟩

theorem GM.store {w : World} {m n : Nat} {f : Int → Int} {B : Nat} (h : GM w m n f B) {v : Int} (hv : I64 v) (hn : n ≤ 1099511627776) {s : Bool} {a : Option Addr} {l c : Nat} {z : Int} (hz : Zn w s a l c z) {B' : Nat} (hl : l ≤ B') (hB : B ≤ B') :
  ∃ w', (Instr.mapUpdate 86 (.map (some m)) (.int .i64 v) (.agg #[.bool s, .slice a l c])).run Tryz.prog w = .ok () w' ∧ GM w' m (n + 1) (fun u => if u = v then z else f u) B' ∧ w.grownBy w' (some m) := by
 obtain ⟨D, h1, h2⟩ := h
 obtain ⟨w', hrun, h3, h4⟩ := h1.store tk Tryz.underlying86 (by unfold maxLen; omega) (keyOf_i hv) (elemR_mk s a l c)
 have hg := h4.grown
 refine ⟨w', hrun, ⟨_, h3, fun u hu => ?_⟩, hg⟩
 by_cases e : u = v
 ·subst e
  exact .inr ⟨s, a, l, c, fun zd => Maps.atKey_put_same h1.isMap (isKey_i u hu) _ _, by simpa using hz.grown hg (map_nocell h1), hl⟩
 ·have hne : (Lit.int .i64 u) ≠ .int .i64 v := fun h => e (by injection h)
  simp only [e, if_false]
  rcases h2 u hu with ⟨h5, h6⟩ | ⟨s', a', l', c', h5, h6, h7⟩
  ·exact .inl ⟨by rw [Maps.has_put_other hne]; exact h5, h6⟩
  ·exact .inr ⟨s', a', l', c', fun zd => by rw [Maps.atKey_put_other hne]; exact h5 zd, h6.grown hg (map_nocell h1), Nat.le_trans h7 hB⟩

/-- a part in memory: a variable, a sign, a slice that says a magnitude of at most B limbs -/
def PA (w : World) (b off : Nat) (p : Int × Int) (B : Nat) : Prop :=
 ∃ s a l c, w.cell? ⟨b, off, none⟩ = some (.int .i64 p.1) ∧ w.cell? ⟨b, off + 1, none⟩ = some (.bool s) ∧ w.cell? ⟨b, off + 2, none⟩ = some (.slice a l c) ∧ Zm w s a l c p.2 ∧ l ≤ B ∧ I64 p.1
/-- parts in memory -/
def PL (w : World) (b off : Nat) (ps : List (Int × Int)) (B : Nat) : Prop := b < w.heap.size ∧ ∀ i (h : i < ps.length), PA w b (off + i * 3) ps[i] B
/-- a slice of parts -/
def Pr (w : World) (ad : Option Addr) (n : Nat) (ps : List (Int × Int)) (B : Nat) : Prop := ps.length = n ∧ (n = 0 ∨ ∃ b off, ad = some ⟨b, off, none⟩ ∧ PL w b off ps B)

theorem PA.below {w w' : World} {b off : Nat} {p : Int × Int} {B : Nat} (h : PA w b off p B) (hb : Below w.heap.size w w') (hlt : b < w.heap.size) : PA w' b off p B := by
 obtain ⟨s, a, l, c, h1, h2, h3, h4, h5⟩ := h
 exact ⟨s, a, l, c, (hb.cell (p := ⟨b, off, none⟩) hlt).trans h1, (hb.cell (p := ⟨b, off + 1, none⟩) hlt).trans h2, (hb.cell (p := ⟨b, off + 2, none⟩) hlt).trans h3, h4.below hb, h5⟩
theorem PL.below {w w' : World} {b off : Nat} {ps : List (Int × Int)} {B : Nat} (h : PL w b off ps B) (hb : Below w.heap.size w w') : PL w' b off ps B :=
 ⟨Nat.lt_of_lt_of_le h.1 hb.size, fun i hi => (h.2 i hi).below hb h.1⟩
theorem Pr.below {w w' : World} {ad : Option Addr} {n : Nat} {ps : List (Int × Int)} {B : Nat} (h : Pr w ad n ps B) (hb : Below w.heap.size w w') : Pr w' ad n ps B := by
 obtain ⟨h1, h2⟩ := h
 refine ⟨h1, ?_⟩
 rcases h2 with h2 | ⟨b, off, h2, h3⟩
 ·exact .inl h2
 ·exact .inr ⟨b, off, h2, h3.below hb⟩
theorem Pr.mono {w : World} {ad : Option Addr} {n : Nat} {ps : List (Int × Int)} {B B' : Nat} (h : Pr w ad n ps B) (hB : B ≤ B') : Pr w ad n ps B' := by
 obtain ⟨h1, h2⟩ := h
 refine ⟨h1, ?_⟩
 rcases h2 with h2 | ⟨b, off, h2, h3, h4⟩
 ·exact .inl h2
 ·refine .inr ⟨b, off, h2, h3, fun i hi => ?_⟩
  obtain ⟨s, a, l, c, g1, g2, g3, g4, g5, g6⟩ := h4 i hi
  exact ⟨s, a, l, c, g1, g2, g3, g4, Nat.le_trans g5 hB, g6⟩
end Go.Proofs.YtjhhknfnaobmiaaGreatDoor
