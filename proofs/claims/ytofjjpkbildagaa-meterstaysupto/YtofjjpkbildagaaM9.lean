/-
  Layer 7: numbers that are lent.
-/
import Derived.Test.YtofjjpkbildagaaM8
import Derived.Test.YtofjjpkbildagaaW3
import Derived.Laws.CopyOwn
import Derived.Maps.AppendAt
import Derived.RangeFuncBox
import Derived.BigQuiet
namespace Go.Proofs.Ytofjjpkbildagaa.Mt
open Go.RowKit

theorem lz_map {xs : List Int} {j : Nat} {v : Value} (h : (xs.map (Value.int .u32))[j]? = some v) : j < xs.length ∧ v = .int .u32 (lz xs j) := by
  rw [List.getElem?_map] at h
  cases hq : xs[j]? with
  | none => rw [hq] at h; cases h
  | some y =>
    rw [hq] at h
    simp only [Option.map_some, Option.some.injEq] at h
    refine ⟨(List.getElem?_eq_some_iff.1 hq).1, ?_⟩
    rw [← h]
    simp [lz, List.getD, hq]
theorem size49 : (Try.prog.info? 59).map (·.size) = some 1 := by kernel_rfl

/-- copy of a slice of limbs onto the head of a row of the call's own -/
theorem run_copy_rd {w : World} {g dLen dCap n cap : Nat} {ad : Option Addr} {cur X : List Int} (hg : Row w g cur) (hX : Rd w ad n cap X) (hd : dLen ≤ cur.length) (ty : TypeId) :
    ∃ v' w', (Builtin.copy_ #[46, 46] ty #[.slice (some ⟨g, 0, none⟩) dLen dCap, .slice ad n cap]).run Try.prog w = .ok v' w' ∧ (∃ k : Nat, v' = goInt k) ∧ Row w' g (X.take (min n dLen) ++ cur.drop (min n dLen)) ∧ Only g w w' := by
  obtain ⟨h1, h2, h3, h4, h5⟩ := hX
  have fin : ∀ a, ad = some a → (∀ j, j < n → w.cell? (a.add j) = some (.int .u32 (lz X j))) → ∃ v' w', (Builtin.copy_ #[46, 46] ty #[.slice (some ⟨g, 0, none⟩) dLen dCap, .slice ad n cap]).run Try.prog w = .ok v' w' ∧ (∃ k : Nat, v' = goInt k) ∧ Row w' g (X.take (min n dLen) ++ cur.drop (min n dLen)) ∧ Only g w w' := by
    rintro a rfl hc
    have hlen : ((X.take (min n dLen)).map (Value.int .u32)).length = Nat.min n dLen := by
      rw [List.length_map, List.length_take]; show min (min n dLen) X.length = min n dLen; omega
    have hr := run_copy_row (P := Try.prog) w 46 46 ty 59 g 0 dLen dCap a n cap (U cur) 59 ((X.take (min n dLen)).map (Value.int .u32)) Try.underlying46 size49 hg hlen
      (fun j v hv => by
        obtain ⟨q1, rfl⟩ := lz_map hv
        rw [List.length_take] at q1
        rw [lz_take, if_pos (by omega)]
        exact hc j (by omega))
      (by rw [U_size, hlen]; show 0 + min n dLen ≤ _; omega)
      (fun u hu => by obtain ⟨z, _, rfl⟩ := List.mem_map.1 hu; rfl)
    refine ⟨_, _, hr, ⟨_, rfl⟩, ?_, ⟨rfl, rfl, rfl, by simp, fun k hk => setRow_other w g k _ hk⟩⟩
    have := setRow_heap w g (U cur) ((U cur).toList.take 0 ++ (X.take (min n dLen)).map (Value.int .u32) ++ (U cur).toList.drop (0 + ((X.take (min n dLen)).map (Value.int .u32)).length)).toArray 59 (0, 0) hg
    rw [Row, this, hlen]
    have hmm : Nat.min n dLen = min n dLen := rfl
    simp [U, List.map_take, List.map_drop, hmm]
  rcases h5 with ⟨rfl, rfl, rfl⟩ | ⟨a, rfl, rfl | ⟨b, off, rfl, _, hc⟩⟩
  · refine ⟨_, _, run_copy_nil (P := Try.prog) w 46 46 ty 59 ⟨g, 0, none⟩ dLen dCap Try.underlying46 (by rw [size49]; rfl), ⟨0, rfl⟩, ?_, Only.refl _ _⟩
    simpa using hg
  · exact fin a rfl (fun j hj => absurd hj (by omega))
  · exact fin _ rfl (fun j hj => by rw [Addr.add_lit]; exact hc j hj)

theorem infoZ : (Try.prog.info? 48).map (fun i => (i.zero, i.size, i.bytes)) = some (some (.agg #[.bool false, .slice none 0 0]), 2, 32) := by kernel_rfl
def V2 (s : Bool) (f l : Nat) : List Value := [.bool s, .slice (some ⟨f, 0, none⟩) l l]
theorem v2_new (W : World) (s : Bool) (f l : Nat) : ∀ j u, (V2 s f l)[j]? = some u → (W.alloc (.cells (V2 s f l).toArray 48)).cell? ((⟨W.heap.size, 0, none⟩ : Addr).add j) = some u := by
  intro j u h
  rw [Addr.add_lit, cell_of_row _ _ (0 + j) _ _ (0, 0) (heap_alloc_new W _)]
  simpa using h
theorem v2_one (s : Bool) (f l : Nat) : ∀ u ∈ V2 s f l, u.oneCell' = true := by
  intro u h
  simp [V2] at h
  rcases h with rfl | rfl <;> rfl
def own2 (S : Nat → Bool) (F L : Nat → Nat) (k : Nat) : List Value := (List.range k).flatMap fun i => V2 (S i) (F i) (L i)
theorem flat_congr {f g : Nat → List Value} {l : List Nat} (h : ∀ a ∈ l, f a = g a) : l.flatMap f = l.flatMap g := by
  induction l with
  | nil => rfl
  | cons a l ih => rw [List.flatMap_cons, List.flatMap_cons, h a (by simp), ih (fun b hb => h b (by simp [hb]))]
theorem own2_succ (S : Nat → Bool) (F L : Nat → Nat) (k f : Nat) : own2 S (fun i => if i = k then f else F i) L (k + 1) = own2 S F L k ++ V2 (S k) f (L k) := by
  unfold own2
  rw [List.range_succ, List.flatMap_append]
  congr 1
  · refine flat_congr fun i hi => ?_
    have : i ≠ k := by have := List.mem_range.1 hi; omega
    simp [this]
  · simp
/-- so many numbers are lent -/
structure OW (w0 : World) (S : Nat → Bool) (L : Nat → Nat) (X : Nat → List Int) (v : Value) (k : Nat) (F : Nat → Nat) (W : World) : Prop where
  below : Below w0.heap.size w0 W
  row : W.ownsRow w0.heap.size 48 2 v k (own2 S F L k)
  rows : ∀ i, i < k → Row W (F i) (X i)
theorem OW.later {w0 : World} {S : Nat → Bool} {L : Nat → Nat} {X : Nat → List Int} {v : Value} {k : Nat} {F : Nat → Nat} {W W' : World} (h : OW w0 S L X v k F W) (hb : Below W.heap.size W W') : OW w0 S L X v k F W' := by
  refine ⟨step7 hb h.below, ?_, fun i hi => (hb.block _ (Row.lt (h.rows i hi))).trans (h.rows i hi)⟩
  obtain ⟨h1, h2 | ⟨g, cap, cur, h3, h4, h5, h6⟩⟩ := h.row
  · exact ⟨h1, .inl h2⟩
  · exact ⟨h1, .inr ⟨g, cap, cur, h3, h4, (hb.block g (Array.getElem?_eq_some_iff.1 h5).1).trans h5, h6⟩⟩
theorem OW.append {w0 : World} {S : Nat → Bool} {L : Nat → Nat} {X : Nat → List Int} {v v' : Value} {k f : Nat} {F : Nat → Nat} {W w1 : World} {tmp : Obj} (h : OW w0 S L X v k F W) (hf : Row W f (X k))
    (hown' : w1.ownsRow w0.heap.size 48 2 v' (k + 1) (own2 S F L k ++ V2 (S k) f (L k))) (hgrow : (W.alloc tmp).grownBy w1 v.ownBlock) :
    OW w0 S L X v' (k + 1) (fun i => if i = k then f else F i) w1 := by
  have hba : Below W.heap.size W (W.alloc tmp) := below_alloc7 _ _
  have hg : ∀ g, v.ownBlock = some g → w0.heap.size ≤ g ∧ ∃ cur, W.heap[g]? = some (.cells cur 48 (0, 0)) := by
    intro g hg
    obtain ⟨_, ⟨rfl, _⟩ | ⟨g', cap, cur, rfl, h4, h5, _⟩⟩ := h.row
    · cases hg
    · cases hg
      exact ⟨h4, cur, h5⟩
  have hrow : ∀ b zs, Row W b zs → Row w1 b zs := by
    intro b zs hr
    have hlt := Row.lt hr
    refine (hgrow.block b (by simpa using Nat.lt_succ_of_lt hlt) (fun e => ?_)).trans ((hba.block b hlt).trans hr)
    obtain ⟨_, cur, hc⟩ := hg b e.symm
    exact absurd (Obj.cells.inj (Option.some.inj ((show W.heap[b]? = _ from hr).symm.trans hc))).2.1 (by decide)
  refine ⟨(step7 hba h.below).trans ((Below.refl w0.heap.size (W.alloc tmp)).grown hgrow (Nat.le_trans h.below.size hba.size) (fun g e => (hg g e).1)), ?_, ?_⟩
  · rw [own2_succ]
    exact hown'
  · intro i hi
    by_cases e : i = k
    · subst e
      simpa using hrow _ _ hf
    · simpa [e] using hrow _ _ (h.rows i (by omega))
theorem own2_len (S : Nat → Bool) (F L : Nat → Nat) (n : Nat) : (own2 S F L n).length = n * 2 := by
  induction n with
  | zero => rfl
  | succ n ih =>
    unfold own2 at ih ⊢
    rw [List.range_succ, List.flatMap_append, List.length_append, ih]
    simp [V2]
    omega
theorem own2_get (S : Nat → Bool) (F L : Nat → Nat) {n i j : Nat} (hi : i < n) (hj : j < 2) : (own2 S F L n)[i * 2 + j]? = (V2 (S i) (F i) (L i))[j]? := by
  induction n with
  | zero => omega
  | succ n ih =>
    have e : own2 S F L (n + 1) = own2 S F L n ++ V2 (S n) (F n) (L n) := by
      unfold own2
      rw [List.range_succ, List.flatMap_append]
      simp
    have hlen := own2_len S F L n
    rw [e]
    by_cases h : i < n
    · rw [List.getElem?_append_left (by omega)]
      exact ih h
    · obtain rfl : i = n := by omega
      rw [List.getElem?_append_right (by omega), hlen]
      congr 1
      omega

theorem ow_nl {w0 : World} {S : Nat → Bool} {L : Nat → Nat} {X : Nat → List Int} {v : Value} {n : Nat} {F : Nat → Nat} {W : World} {Q : List (Bool × List Int)} {B : Nat} (h : OW w0 S L X v n F W) (hQ : Q.length = n) (hL : ∀ i (hi : i < Q.length), S i = (Q[i]).1 ∧ X i = (Q[i]).2 ∧ Limbs (X i) ∧ (X i).length = L i ∧ L i ≤ B) (hB : B ≤ 1048576) :
    ∃ adl cap, v = .slice adl n cap ∧ NL W adl n Q B := by
  obtain ⟨h1, ⟨rfl, rfl⟩ | ⟨g, cap, cur, rfl, h4, h5, h6, h7, h8, h9⟩⟩ := h.row
  · exact ⟨none, 0, rfl, hQ, .inl rfl⟩
  · have hc : ∀ i j, i < n → j < 2 → W.cell? ⟨g, 0 + i * 2 + j, none⟩ = (V2 (S i) (F i) (L i))[j]? := by
      intro i j hi hj
      rw [cell_of_row W g (0 + i * 2 + j) _ _ (0, 0) h5, ← own2_get S F L hi hj, ← h9, List.getElem?_take_of_lt (by omega)]
      simp
    refine ⟨some ⟨g, 0, none⟩, cap, rfl, hQ, .inr ⟨g, 0, rfl, fun i hi => ?_⟩⟩
    obtain ⟨e1, e2, e3, e4, e5⟩ := hL i hi
    refine ⟨some ⟨F i, 0, none⟩, L i, L i, ?_, hc i 1 (by omega) (by decide), ?_, e5⟩
    · rw [← e1]; exact hc i 0 (by omega) (by decide)
    · rw [← e2]
      have r := (h.rows i (by omega)).rd e3 (off := 0) (len := L i) (cap := L i) (by omega) (Nat.le_refl _) (by omega)
      rw [List.drop_zero, List.take_of_length_le (by omega)] at r
      exact r

set_option maxRecDepth 100000 in
set_option maxHeartbeats 3200000 in
theorem lent_n {w : World} {ad : Option Addr} {m cp : Nat} {Q : List (Bool × List Int)} {B : Nat} (hN : NL w ad m Q B) (hB : B ≤ 1048576) (hm : m ≤ 1048576) :
    Calls Try.prog 15 #[.slice ad m cp] w fun x w' => ∃ ad' cp', x = .returned (.slice ad' m cp') ∧ NL w' ad' m Q B ∧ Below w.heap.size w w' := by
  go_enter Try.func15, Try.ntmps15
  go_wp2_with fail
  go_loopw [3, 4] (fun t i wr => ∃ (k : Nat) (F : Nat → Nat), k ≤ m ∧ i = .int .i64 k ∧ OW w (fun i => (Q.getD i (false, [])).1) (fun i => (Q.getD i (false, [])).2.length) (fun i => (Q.getD i (false, [])).2) t k F wr) (fun _ i _ => m - (intOf i).toNat)
  case atStart => exact ⟨0, fun _ => 0, Nat.zero_le _, rfl, ⟨Below.refl _ _, World.ownsRow_nil _ _ _ _, fun i hi => absurd hi (by omega)⟩⟩
  case round =>
    obtain ⟨k, F, hk, rfl, hO⟩ := hrel
    by_cases hkN : k < m
    · have hQl := hN.1
      obtain ⟨-, hNN⟩ := hN.below hO.below
      rcases hNN with h0 | ⟨bp, op, rfl, hNN⟩
      · omega
      · obtain ⟨a, l, cc, e0, e1, hr, hl⟩ := hNN k (by omega)
        have hq : Hid (Q.getD k (false, []) = Q[k]) := (show _ = _ by rw [List.getD_eq_getElem?_getD, List.getElem?_eq_getElem (by omega)]; rfl)
        clear hNN
        generalize Q[k] = lt at *
        obtain ⟨ls, lx⟩ := lt
        dsimp only at *
        have hxl := hr.1
        subst hxl
        have hmk := run_mk lx.length (by omega)
        have hbl := cell_lt e0
        obtain ⟨v', w', hrun, ⟨kk, rfl⟩, hrow, ho⟩ := run_copy_rd (dLen := lx.length) (dCap := lx.length) (row_alloc wr (List.replicate lx.length 0)) (hr.below (below_alloc7 wr (.cells (U (List.replicate lx.length 0)) 59))) (by simp) 3
        rw [Nat.min_self, List.take_length, List.drop_eq_nil_of_le (by simp), List.append_nil] at hrow
        have hk2 : Below wr.heap.size wr w' := (below_alloc7 wr _).trans (ho.below (Nat.le_refl _))
        have f0 := (hk2.cell (p := ⟨bp, op + k * 2, none⟩) hbl).trans e0
        have hO2 := hO.later hk2
        obtain ⟨i0, hi, hz0, hz1, hz2⟩ := info_parts infoZ
        have HH := hide (And.intro hrow (And.intro hk2 hO2))
        clear hrow hk2 hO2 ho
        go_wp2_with (at_builtin; refine wpList_append_own_at _ rfl _ _ 34 rfl w.heap.size 48 i0 _ 2 32 Try.underlying34 hi hz0 hz1 hz2 rfl (by decide) _ _ _ rfl (HH.out.2.2.row.alloc _) ⟨w'.heap.size, 0, none⟩ 1 1 (V2 ls wr.heap.size lx.length) rfl rfl (v2_new _ _ _ _) (v2_one _ _ _) (by unfold maxLen; omega) (by omega) (by have := HH.out.2.2.below.size; simp; omega) ?_; intro v' w3 hown' hgrow _ _)
        have hown2 : w3.ownsRow w.heap.size 48 2 v' (k + 1) (own2 (fun i => (Q.getD i (false, [])).1) F (fun i => (Q.getD i (false, [])).2.length) k ++ V2 ((fun i => (Q.getD i (false, [])).1) k) wr.heap.size ((fun i => (Q.getD i (false, [])).2.length) k)) := by
          dsimp only
          rw [hq.out]
          exact hown'
        have hrow2 : Row w' wr.heap.size ((fun i => (Q.getD i (false, [])).2) k) := by
          dsimp only
          rw [hq.out]
          exact HH.out.1
        exact ⟨⟨k + 1, fun i => if i = k then wr.heap.size else F i, by omega, by go_num, HH.out.2.2.append hrow2 hown2 hgrow⟩, by simp [intOf]; omega⟩
    · obtain rfl : k = m := by omega
      obtain ⟨adl, cap, rfl, hNL⟩ := ow_nl hO hN.1 (fun i hi => by
        obtain ⟨hNl, hNN⟩ := hN
        rcases hNN with h0 | ⟨bp, op, rfl, hNN⟩
        · omega
        · obtain ⟨a, l, cc, e0, e1, hr, hl⟩ := hNN i hi
          have hq : Q.getD i (false, []) = Q[i] := by rw [List.getD_eq_getElem?_getD, List.getElem?_eq_getElem (by omega)]; rfl
          rw [hq]
          exact ⟨rfl, rfl, hr.2.2.2.1, rfl, by have := hr.1; omega⟩) hB
      have kf := hide (And.intro hNL hO.below)
      clear hNL hO
      go_wp2
      go_ret
      exact ⟨adl, cap, rfl, kf.out.1, kf.out.2⟩
end Go.Proofs.Ytofjjpkbildagaa.Mt
