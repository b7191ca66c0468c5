/-
  Layer 5: firstValues.
-/
import Derived.Test.YtofhodimmeiahaaGreatDoorJ5
namespace Go.Proofs.YtofhodimmeiahaaGreatDoor
open Go.RowKit Go.Sort Go.Shelf
open Tm

theorem fv_snoc (vs : List (Int × Int)) (p : Int × Int) (u : Int) : fv (vs ++ [p]) u = match fv vs u with
    | some z => some z
    | none => if p.1 = u then some p.2 else none := by
  induction vs with
  | nil => simp [fv]
  | cons q vs ih =>
    simp only [List.cons_append, fv]
    by_cases h : q.1 = u
    · simp [h]
    · simp only [h, if_false]; exact ih

/-- what a map of values says of a variable: its first value -/
def FA (w : World) (D : DataW Value) (vs : List (Int × Int)) (B : Nat) : Prop :=
  ∀ v, I64 v → (Maps.has D (.int .i64 v) = false ∧ fv vs v = none) ∨ ∃ s a l c z, (∀ zd, D.atKey (.int .i64 v) zd = .held (.agg #[.bool s, .slice a l c])) ∧ Zm w s a l c z ∧ fv vs v = some z ∧ l ≤ B
def FM (w : World) (m n : Nat) (vs : List (Int × Int)) (B : Nat) : Prop := ∃ D, w.ownsMap Tryz.prog 3 elemR m n D ∧ FA w D vs B
theorem FM.below {w w' : World} {m n : Nat} {vs : List (Int × Int)} {B : Nat} (h : FM w m n vs B) (hb : Below w.heap.size w w') : FM w' m n vs B := by
  obtain ⟨D, h1, h2⟩ := h
  refine ⟨D, h1.kept (row := none) ⟨hb.os, hb.tape, hb.output, hb.size, fun k hk _ => hb.block k hk⟩ (by simp), fun v hv => ?_⟩
  rcases h2 v hv with h3 | ⟨s, a, l, c, z, h3, h4, h5⟩
  · exact .inl h3
  · exact .inr ⟨s, a, l, c, z, h3, h4.below hb, h5⟩
theorem FM.lt {w : World} {m n : Nat} {vs : List (Int × Int)} {B : Nat} (h : FM w m n vs B) : m < w.heap.size := by
  obtain ⟨D, h1, _⟩ := h; exact h1.lt
theorem FM.nocell {w : World} {m n : Nat} {vs : List (Int × Int)} {B : Nat} (h : FM w m n vs B) (off : Nat) : w.cell? ⟨m, off, none⟩ = none := by
  obtain ⟨D, h1, _⟩ := h; exact map_nocell h1 off
theorem fm_new (w : World) (B : Nat) : FM (w.alloc (.map #[] 0)) w.heap.size 0 [] B :=
  ⟨_, World.ownsMap_made w _ _ _, fun _ _ => .inl ⟨rfl, rfl⟩⟩
theorem FM.mono {w : World} {m n n' : Nat} {vs : List (Int × Int)} {B : Nat} (h : FM w m n vs B) (hn : n ≤ n') : FM w m n' vs B := by
  obtain ⟨D, h1, h2⟩ := h
  exact ⟨D, h1.mono hn, h2⟩

theorem FM.look {w : World} {m n : Nat} {vs : List (Int × Int)} {B : Nat} (h : FM w m n vs B) {v : Int} (hv : I64 v) :
    ∃ s a l c, (∃ ok, (Instr.lookup 71 (.map (some m)) (.int .i64 v) true).run Tryz.prog w = .ok (.tuple #[.agg #[.bool s, .slice a l c], .bool ok]) w ∧ ((ok = false ∧ fv vs v = none) ∨ (ok = true ∧ ∃ z, Zm w s a l c z ∧ fv vs v = some z ∧ l ≤ B))) := by
  obtain ⟨D, h1, h2⟩ := h
  obtain ⟨u, ps, hrun, hu⟩ := h1.look_ok tk Tryz.underlying71 (Tryz.zeroValue24 w) (elemR_mk _ _ _ _) (keyOf_i hv)
  obtain ⟨s, a, l, c, rfl, e⟩ := elemR_inv hu
  refine ⟨s, a, l, c, _, hrun, ?_⟩
  rcases h2 v hv with ⟨h3, h4⟩ | ⟨s', a', l', c', z, h3, h4, h5, h6⟩
  · exact .inl ⟨h3, h4⟩
  · rw [h3] at e
    simp at e
    obtain ⟨⟨rfl, rfl, rfl, rfl⟩, _⟩ := e
    exact .inr ⟨Maps.has_true_of_atKey h3, z, h4, h5, h6⟩

theorem FM.store {w : World} {m n : Nat} {vs : List (Int × Int)} {B : Nat} (h : FM w m n vs B) {v : Int} (hv : I64 v) (hn : n ≤ 1099511627776) {s : Bool} {a : Option Addr} {l c : Nat} {z : Int} (hz : Zm w s a l c z) (hl : l ≤ B) (hf : fv vs v = none) :
    ∃ w', (Instr.mapUpdate 71 (.map (some m)) (.int .i64 v) (.agg #[.bool s, .slice a l c])).run Tryz.prog w = .ok () w' ∧ FM w' m (n + 1) (vs ++ [(v, z)]) B ∧ w.grownBy w' (some m) := by
  obtain ⟨D, h1, h2⟩ := h
  obtain ⟨w', hrun, h3, h4⟩ := h1.store tk Tryz.underlying71 (by unfold maxLen; omega) (keyOf_i hv) (elemR_mk s a l c)
  have hg := h4.grown
  refine ⟨w', hrun, ⟨_, h3, fun u hu => ?_⟩, hg⟩
  rw [fv_snoc]
  by_cases e : v = u
  · subst e
    rw [hf]
    exact .inr ⟨s, a, l, c, z, fun zd => Maps.atKey_put_same h1.isMap (isKey_i v hu) _ _, hz.grown hg (map_nocell h1), by simp, hl⟩
  · have hne : (Lit.int .i64 u) ≠ .int .i64 v := fun h => e (Eq.symm (by injection h))
    simp only [e, if_false]
    rcases h2 u hu with ⟨h5, h6⟩ | ⟨s', a', l', c', z', h5, h6, h7, h8⟩
    · exact .inl ⟨by rw [Maps.has_put_other hne]; exact h5, by rw [h6]⟩
    · exact .inr ⟨s', a', l', c', z', fun zd => by rw [Maps.atKey_put_other hne]; exact h5 zd, h6.grown hg (map_nocell h1), by rw [h7], h8⟩
theorem FM.again {w : World} {m n : Nat} {vs : List (Int × Int)} {B : Nat} (h : FM w m n vs B) {v z z' : Int} (hf : fv vs v = some z) : FM w m n (vs ++ [(v, z')]) B := by
  obtain ⟨D, h1, h2⟩ := h
  refine ⟨D, h1, fun u hu => ?_⟩
  rw [fv_snoc]
  rcases h2 u hu with ⟨h5, h6⟩ | ⟨s', a', l', c', z', h5, h6, h7, h8⟩
  · refine .inl ⟨h5, ?_⟩
    rw [h6]
    have : ¬ v = u := fun e => by rw [e, h6] at hf; cases hf
    simp [this]
  · exact .inr ⟨s', a', l', c', z', h5, h6, by rw [h7], h8⟩

set_option maxRecDepth 100000 in
set_option maxHeartbeats 1600000 in
theorem first_n {w : World} {ad : Option Addr} {n cp : Nat} {vs : List (Int × Int)} {B : Nat} (hP : Pr w ad n vs B) (hn2 : n ≤ 536870912) :
    Calls Tryz.prog 39 #[.slice ad n cp] w fun e w' => ∃ m, e = .returned (.map (some m)) ∧ FM w' m n vs B ∧ Below w.heap.size w w' ∧ w.heap.size ≤ m := by
  have hmm := run_makeMap (P := Tryz.prog) 71 w
  obtain ⟨hn, hP⟩ := hP
  go_enter Tryz.func39, Tryz.ntmps39
  go_wp2_with fail
  have hF0 := fm_new w B
  have b0 := below_alloc w (.map #[] 0)
  generalize w.alloc (.map #[] 0) = w1 at *
  generalize hm : w.heap.size = m at *
  replace b0 : Below w.heap.size w w1 := hm ▸ b0
  replace hm := hide hm
  clear hmm
  go_loopw [11] (fun j wr => ∃ t : Nat, t ≤ n ∧ j = .int .i64 t ∧ FM wr m t (vs.take t) B ∧ Below w.heap.size w wr) (fun j _ => n - (intOf j).toNat)
  case atStart => exact ⟨0, Nat.zero_le _, rfl, by simpa using hF0, b0⟩
  case round =>
    obtain ⟨t, ht, rfl, hF, kr⟩ := hrel
    by_cases htn : t < n
    · rcases hP with hP | ⟨bp, op, rfl, hP⟩
      · omega
      · obtain ⟨s1, a1, l1, c1, e0, e1, e2, hz, hl1, hv⟩ := (hP.below kr).2 t (by omega)
        have hps : Hid (vs.take (t + 1) = vs.take t ++ [vs[t]]) := List.take_succ_eq_append_getElem (l := vs) (i := t) (by omega)
        generalize vs[t] = pp at *
        obtain ⟨pv, pz⟩ := pp
        dsimp only at *
        have ka := below_alloc wr (.cells #[.int .i64 pv, .bool s1, .slice a1 l1 c1] 46)
        have hF2 := hF.below ka
        have hz2 := hz.below ka
        obtain ⟨s2, a2, l2, c2, ok, hlook, hok⟩ := hF2.look hv
        have kb := below_alloc (wr.alloc (.cells #[.int .i64 pv, .bool s1, .slice a1 l1 c1] 46)) (.cells #[.bool s2, .slice a2 l2 c2] 24)
        have kr2 := hide (grow_step kb (grow_step ka kr))
        replace hF2 := hF2.below kb
        replace hz2 := hz2.below kb
        rcases hok with ⟨rfl, hf⟩ | ⟨rfl, z, hzz, hf, hlz⟩
        · obtain ⟨w3, hst, hF3, hg3⟩ := hF2.store hv (by omega) hz2 hl1 hf
          have kr3 := hide (below_grown kr2.out hg3 (Nat.le_of_eq hm.out))
          clear ka kb
          go_wp2_with fail
          refine ⟨⟨t + 1, by omega, by go_num, ?_, kr3.out⟩, by simp [intOf]; omega⟩
          rw [hps.out]
          exact hF3
        · clear ka kb
          go_wp2_with fail
          refine ⟨⟨t + 1, by omega, by go_num, ?_, kr2.out⟩, by simp [intOf]; omega⟩
          rw [hps.out]
          exact (hF2.again hf).mono (by omega)
    · obtain rfl : t = n := by omega
      rw [List.take_of_length_le (Nat.le_of_eq hn)] at hF
      go_wp2
      go_ret
      exact ⟨m, rfl, hF, kr, Nat.le_of_eq hm.out⟩
end Go.Proofs.YtofhodimmeiahaaGreatDoor
