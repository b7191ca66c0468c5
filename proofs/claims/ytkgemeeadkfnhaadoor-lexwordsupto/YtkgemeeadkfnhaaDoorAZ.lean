/-
  A row of one's own whose spare room holds noughts; what is appended leaves it so.
-/
import Derived.Test.YtkgemeeadkfnhaaDoorRF
import Derived.RangeFuncBox
import Derived.Maps.AppendAt
namespace Go.Proofs.YtkgemeeadkfnhaaDoor
open Go.RowKit Go.Shelf

/-- the spare room of a list holds noughts -/
def SpZ (w : World) (zc : Array Value) (v : Value) : Prop := ∀ g n cap, v = .slice (some ⟨g, 0, none⟩) n cap → ∀ j, n * zc.size ≤ j → j < cap * zc.size → w.cell? ⟨g, j, none⟩ = some zc[j % zc.size]!
theorem spz_nil (w : World) (zc : Array Value) : SpZ w zc (.slice none 0 0) := fun g n cap e => by cases e
theorem SpZ.below {w w' : World} {zc : Array Value} {v : Value} (h : SpZ w zc v) (hb : Below w.heap.size w w') : SpZ w' zc v := fun g n cap e j h1 h2 => by
  have hc := h g n cap e j h1 h2
  exact (hb.cell (p := ⟨g, j, none⟩) (World.block_lt_of_cell? w ⟨g, j, none⟩ hc)).trans hc
theorem SpZ.same {w w' : World} {zc : Array Value} {v : Value} (h : SpZ w zc v) (hb : ∀ g, v.ownBlock = some g → w'.heap[g]? = w.heap[g]?) : SpZ w' zc v := fun g n cap e j h1 h2 => by
  have hc := h g n cap e j h1 h2
  subst e
  exact (World.cell?_of_block (w := w) (a := ⟨g, j, none⟩) (hb g rfl)).trans hc

theorem zero_get (z : Array Value) (k j : Nat) (h : j < k * z.size) : (Builtin.zeroCells z k)[j]? = some z[j % z.size]! := by
  simp [Builtin.zeroCells, h]
theorem mod_shift {a n j : Nat} (h : n * a ≤ j) : (j - n * a) % a = j % a := by
  have e : j = (j - n * a) + n * a := by omega
  conv => rhs; rw [e]
  rw [Nat.add_mul_mod_self_right]

theorem append_spz {P : Program} {w : World} {base : Nat} {t ty e : TypeId} {i : TypeInfo} {z : Value} {size bytes : Nat} (ht : P.underlying t = some (.slice e)) (hi : P.info? e = some i) (hz : i.zero = some z)
    (hsize : i.size = size) (hby : i.bytes = bytes) (hzs : z.cells.size = size)
    {v : Value} {n : Nat} {xs : List Value} (hown : w.ownsRow base e size v n xs) (hsp : SpZ w z.cells v)
    {a : Addr} {c : Nat} {news : List Value} (hl : news.length = size) (hnews : ∀ j u, news[j]? = some u → w.cell? (a.add j) = some u) (h1 : ∀ u ∈ news, u.oneCell' = true)
    (h63 : n + 1 ≤ maxLen) (hbytes : (n + 1) * bytes ≤ 140737488355328) {v' : Value} {w' : World} (hr : (Builtin.append_ #[t, t] ty #[v, .slice (some a) 1 c]).run P w = .ok v' w') : SpZ w' z.cells v' := by
  subst hsize
  subst hby
  have hmx : n + 1 ≤ 9223372036854775807 := by simp only [maxLen] at h63; omega
  have hl' : news.length = 1 * i.size := by omega
  have grown : ∀ (old : Nat), SpZ (w.drew.alloc (.cells (xs.toArray ++ news.toArray ++ Builtin.zeroCells z.cells (grownCap w (n + 1) old e - (n + 1))) e)) z.cells (.slice (some ⟨w.heap.size, 0, none⟩) (n + 1) (grownCap w (n + 1) old e)) := by
    intro old g n' cap' he j hj1 hj2
    have hge := grownCap_ge w (n + 1) old e
    simp only [Value.slice.injEq, Option.some.injEq, Addr.mk.injEq] at he
    obtain ⟨⟨rfl, _⟩, rfl, rfl⟩ := he
    have hlen : (xs.toArray ++ news.toArray).size = (n + 1) * z.cells.size := by rw [Array.size_append, List.size_toArray, List.size_toArray, hown.1, hl, hzs, Nat.add_mul, Nat.one_mul]
    have hm : (grownCap w (n + 1) old e - (n + 1)) * z.cells.size = grownCap w (n + 1) old e * z.cells.size - (n + 1) * z.cells.size := Nat.sub_mul _ _ _
    have key := cell_of_row _ w.heap.size j _ _ (0, 0) (heap_alloc_new w.drew (.cells (xs.toArray ++ news.toArray ++ Builtin.zeroCells z.cells (grownCap w (n + 1) old e - (n + 1))) e))
    refine key.trans ?_
    rw [Array.getElem?_append_right (by omega), zero_get _ _ _ (by rw [hlen, hm]; omega), hlen, mod_shift hj1]
  rcases hown.2 with ⟨rfl, rfl⟩ | ⟨g, cap, cur, rfl, hbg, hg, hnc, hcm, hcs, htake⟩
  · have hx : xs = [] := List.eq_nil_of_length_eq_zero (by simpa using hown.1)
    subst hx
    have hr2 := run_append_nil (P := P) w t ty e i z ht hi hz a 1 c news hl' hnews (by omega) (by omega) (by omega)
    rw [hr2] at hr
    simp only [Result.ok.injEq] at hr
    obtain ⟨rfl, rfl⟩ := hr
    have := grown 0
    simpa using this
  · by_cases hroom : n + 1 ≤ cap
    · have hfit : n * i.size + news.length ≤ cur.size := by rw [hl', hcs, ← Nat.add_mul]; exact Nat.mul_le_mul_right _ hroom
      have hr2 := run_append_room (P := P) w t ty e i ht hi g n cap cur hg a 1 c news hl' hnews h1 hroom hfit
      rw [hr2] at hr
      simp only [Result.ok.injEq] at hr
      obtain ⟨rfl, rfl⟩ := hr
      intro g' n' cap' he j hj1 hj2
      simp only [Value.slice.injEq, Option.some.injEq, Addr.mk.injEq] at he
      obtain ⟨⟨rfl, _⟩, rfl, rfl⟩ := he
      have hold := hsp g n cap rfl j (by rw [Nat.add_mul] at hj1; omega) hj2
      rw [cell_of_row w g j _ _ (0, 0) hg] at hold
      rw [cell_of_row _ g j _ _ (0, 0) (setRow_heap w g cur _ e _ hg)]
      rw [← hold]
      rw [hzs] at hj1 hj2
      rw [Nat.add_mul, Nat.one_mul] at hj1
      have e1 : (cur.toList.take (n * i.size) ++ news).length = n * i.size + i.size := by
        rw [List.length_append, List.length_take, Array.length_toList, hl, hcs]
        have : n * i.size ≤ cap * i.size := Nat.mul_le_mul_right _ hnc
        omega
      rw [List.getElem?_toArray, List.getElem?_append_right (by omega), e1, List.getElem?_drop, Array.getElem?_toList]
      congr 1
      omega
    · have holds : ∀ j u, xs[j]? = some u → w.cell? ((⟨g, 0, none⟩ : Addr).add j) = some u := hown.cells (g := g) rfl
      have hr2 := run_append_grow (P := P) w t ty e i z ht hi hz ⟨g, 0, none⟩ n cap xs hown.1 holds a 1 c news hl' hnews (by omega) (by omega) (growslice_fits (by omega) hbytes)
      rw [hr2] at hr
      simp only [Result.ok.injEq] at hr
      obtain ⟨rfl, rfl⟩ := hr
      exact grown cap

/-- append of one, in a round -/
theorem wpListIn_append_z {F : Fence} {nf : Nat} {P : Program} {w : World} {ops : Array Oper} {rest : List Oper} {o : Oper} {a : Act} {Q : Exit → Act → World → Prop}
    (hg : o.guard = none) (s x : Operand) (t : TypeId) (hop : o.op = Op.call { callee := Callee.builtin Builtin.append, args := #[s, x], argTypes := #[t, t] })
    (base : Nat) (e : TypeId) (i : TypeInfo) (z : Value) (size bytes : Nat) (ht : P.underlying t = some (.slice e)) (hi : P.info? e = some i) (hz : i.zero = some z) (hsize : i.size = size) (hby : i.bytes = bytes) (hzs : z.cells.size = size) (hsz : 0 < size)
    (v : Value) (k : Nat) (xs : List Value) (hs : a.eval s = v) (hown : w.ownsRow base e size v k xs) (hsp : SpZ w z.cells v) (ad : Addr) (c : Nat) (news : List Value) (hx : a.eval x = .slice (some ad) 1 c) (hn : news.length = size)
    (hc : ∀ j u, news[j]? = some u → w.cell? (ad.add j) = some u) (h1c : ∀ u ∈ news, u.oneCell' = true) (b1 : k + 1 ≤ maxLen) (b2 : (k + 1) * bytes ≤ 140737488355328) (b3 : base ≤ w.heap.size)
    (hK : ∀ v' w', w'.ownsRow base e size v' (k + 1) (xs ++ news) → w.grownBy w' v.ownBlock → SpZ w' z.cells v' → wpListIn F nf P ops Q rest (a.put o.dst v') w') :
    wpListIn F nf P ops Q (o :: rest) a w := by
  refine wpListIn_plain hg fun K hK' => ?_
  obtain ⟨v', w', hrun, r1, r2, -⟩ := run_append_own (P := P) w base t o.type e i z size bytes ht hi hz hsize hby hzs hsz v k xs hown ad 1 c news (by omega) hc h1c b1 b2 b3
  have r3 := append_spz ht hi hz hsize hby hzs hown hsp hn hc h1c b1 b2 hrun
  unfold Oper.wpIn
  refine ⟨by simp [Oper.about, hop, resolve, Target.leads, Sem.run_pure], ?_⟩
  rw [Oper.semAt_plain F _ _ (by rw [hop]; intro c hc'; cases hc')]
  simp [execOp, hop, resolve, invoke, builtin, hs, hx, hrun, Result.andThen]
  exact hK' _ _ (hK v' w' r1 r2 r3)
end Go.Proofs.YtkgemeeadkfnhaaDoor
