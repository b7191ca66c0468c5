/-
 append on a row of limbs that the call itself made, in the words of 'Out'.
-/
import Derived.Test.YtjhhknfnaobmiaaGreatDoorJ0
namespace Go.Proofs.YtjhhknfnaobmiaaGreatDoor
open Go.RowKit

theorem wpList_append_run {P : Program} {w : World} {ops : Array Oper} {rest : List Oper} {o : Oper} {a : Act} {Q : Exit → Act → World → Prop} (hgd : o.guard = none) (s x : Operand) (t : TypeId)
  (ho : o.op = .call { callee := .builtin .append, args := #[s, x], argTypes := #[t, t] }) (v1 v2 : Value) (hs : a.eval s = v1) (hx : a.eval x = v2) (F : Value → World → Prop)
  (hr : ∃ v' w', (Builtin.append_ #[t, t] o.type #[v1, v2]).run P w = .ok v' w' ∧ F v' w')
  (h : ∀ v' w', F v' w' → wpList P ops Q rest (a.put o.dst v') w') : wpList P ops Q (o :: rest) a w := by
 obtain ⟨v', w', hr, hF⟩ := hr
 refine wpList_plain hgd fun K hK => ?_
 unfold Oper.wp execOp
 simp only [ho, resolve, invoke, builtin, Sem.run_bind, Sem.run_pure, Result.andThen_ok, List.map_toArray, List.map_cons, List.map_nil, hs, hx, hr]
 exact hK _ _ (h v' w' hF)

theorem zeroCells_eq (n : Nat) : Builtin.zeroCells (Value.int .u32 0).cells n = U (List.replicate n 0) := by
 apply Array.ext'
 apply List.ext_getElem?
 intro j
 by_cases hj : j < n
 ·simp [Builtin.zeroCells, Value.cells, U, hj, Nat.mod_one]
 ·simp [Builtin.zeroCells, Value.cells, U, hj]

theorem U_append (xs ys : List Int) : U xs ++ U ys = U (xs ++ ys) := by simp [U]

theorem row_drew_alloc (w : World) (xs : List Int) : Row (w.drew.alloc (.cells (U xs) 73)) w.heap.size xs := heap_alloc_new w.drew _

theorem Limbs.append {xs ys : List Int} (h : Limbs xs) (k : Limbs ys) : Limbs (xs ++ ys) := fun z hz => (List.mem_append.1 hz).elim (h z) (k z)
theorem Limbs.drop {zs : List Int} (h : Limbs zs) (n : Nat) : Limbs (zs.drop n) := fun z hz => h z (List.mem_of_mem_drop hz)

theorem lz_map {xs : List Int} {j : Nat} {v : Value} (h : (xs.map (Value.int .u32))[j]? = some v) : j < xs.length ∧ v = .int .u32 (lz xs j) := by
 rw [List.getElem?_map] at h
 cases hq : xs[j]? with
 | none => rw [hq] at h; cases h
 | some y =>
  rw [hq] at h
  simp only [Option.map_some, Option.some.injEq] at h
  refine ⟨(List.getElem?_eq_some_iff.1 hq).1, ?_⟩
  rw [← h]
  simp [lz, List.getD, hq]

theorem info49a : (Tryz.prog.info? 73).map (fun i => (i.zero, i.size, i.bytes)) = some (some (.int .u32 0), 1, 4) := by kernel_rfl

theorem below_drew_alloc {w0 w : World} (h : Below w0.heap.size w0 w) (o : Obj) : Below w0.heap.size w0 (w.drew.alloc o) :=
 (h.drew).alloc (by have := h.size; simpa using this) o

theorem grown_drew_alloc (w : World) (o : Obj) (row : Option Nat) : w.grownBy (w.drew.alloc o) row :=
 ⟨rfl, rfl, rfl, by simp, fun k hk _ => Below.heap_alloc w.drew o k hk⟩

/-- append onto an answer of the call's own, from cells that lie somewhere -/
theorem run_append_out {w0 w : World} {ad : Option Addr} {n cap : Nat} {xs : List Int} (hO : Out w0 w ad n cap xs) (ty : TypeId) (a : Addr) (m c : Nat) (news : List Int) (hl : news.length = m) (hL : Limbs news)
  (hnews : ∀ j, j < m → w.cell? (a.add j) = some (.int .u32 (lz news j))) (hbig : n + m ≤ 35184372088832) :
  ∃ v' w', (Builtin.append_ #[22, 22] ty #[.slice ad n cap, .slice (some a) m c]).run Tryz.prog w = .ok v' w' ∧ ∃ ad' cap', v' = .slice ad' (n + m) cap' ∧ Out w0 w' ad' (n + m) cap' (xs ++ news) ∧ w.grownBy w' (blk ad) ∧ (∀ k, blk ad' = some k → blk ad = some k ∨ w.heap.size ≤ k) := by
 obtain ⟨i0, hi, hz0, hz1, hz2⟩ := info_parts info49a
 have hnv : ∀ j v, (news.map (Value.int .u32))[j]? = some v → w.cell? (a.add j) = some v := fun j v hv => by
  obtain ⟨h1, rfl⟩ := lz_map hv
  exact hnews j (by omega)
 have hone : ∀ u ∈ news.map (Value.int .u32), u.oneCell' = true := fun u hu => by
  obtain ⟨z, _, rfl⟩ := List.mem_map.1 hu; rfl
 obtain ⟨hB, ⟨rfl, rfl, rfl, rfl⟩ | ⟨b, zs, rfl, hb, hr, hlz, hzl, hle, hm, rfl⟩⟩ := hO
 ·by_cases h0 : m = 0
  ·subst h0
   obtain rfl : news = [] := List.eq_nil_of_length_eq_zero hl
   refine ⟨.slice none 0 0, w, ?_, none, 0, rfl, ⟨hB, .inl ⟨rfl, rfl, rfl, rfl⟩⟩, ⟨rfl, rfl, rfl, Nat.le_refl _, fun _ _ _ => rfl⟩, fun k h => .inl h⟩
   simp [Builtin.append_, run_underlying Tryz.underlying22, sizeOf, typeInfo, hi, Builtin.lenOf, Builtin.firstCells, loadCells, loadCellsFrom]
  ·have hr := run_append_nil (P := Tryz.prog) w 22 ty 73 i0 (.int .u32 0) Tryz.underlying22 hi hz0 a m c (news.map (Value.int .u32)) (by rw [hz1]; simp [hl]) hnv (by omega) (by omega) (by rw [hz2]; omega)
   have hge := grownCap_ge w m 0 73
   have hcm : grownCap w m 0 73 ≤ maxLen := grownCap_le_maxLen w m 0 73 (by unfold maxLen; omega)
   rw [zeroCells_eq] at hr
   rw [show (news.map (Value.int .u32)).toArray = U news from rfl, U_append] at hr
   refine ⟨_, _, hr, _, _, by rw [Nat.zero_add], ⟨below_drew_alloc hB _, .inr ⟨_, _, rfl, by have := hB.size; omega, row_drew_alloc w _, hL.append (Limbs.replicate _), by simp [hl]; omega, by omega, by unfold maxLen at hcm; omega, ?_⟩⟩, grown_drew_alloc w _ _, fun k h => .inr (by cases h; exact Nat.le_refl _)⟩
   rw [Nat.zero_add, List.nil_append, ← hl, List.take_left]
 ·by_cases hroom : n + m ≤ cap
  ·have hr' := run_append_room (P := Tryz.prog) w 22 ty 73 i0 Tryz.underlying22 hi b n cap (U zs) hr a m c (news.map (Value.int .u32)) (by rw [hz1]; simp [hl]) hnv hone hroom (by rw [hz1, U_size]; simp [hl]; omega)
   refine ⟨_, _, hr', some ⟨b, 0, none⟩, cap, rfl, ⟨?_, .inr ⟨b, zs.take n ++ news ++ zs.drop (n + m), rfl, hb, ?_, ((hlz.take n).append hL).append (hlz.drop _), by simp [hl]; omega, hroom, hm, ?_⟩⟩, ⟨rfl, rfl, rfl, by simp, fun k _ hk => setRow_other w b k _ (fun e => hk (by simp [blk, e]))⟩, fun k h => .inl h⟩
   ·exact hB.trans ⟨rfl, rfl, rfl, by simp, fun k hk => setRow_other w b k _ (by omega)⟩
   ·have := setRow_heap w b (U zs) ((U zs).toList.take (n * i0.size) ++ news.map (Value.int .u32) ++ (U zs).toList.drop (n * i0.size + (news.map (Value.int .u32)).length)).toArray 73 (0, 0) hr
    rw [Row, this]
    simp [U, hz1, hl, List.map_take, List.map_drop]
   ·have e : (zs.take n ++ news).length = n + m := by simp [hl]; omega
    rw [← e, List.take_left]
  ·have holds : ∀ j v, ((zs.take n).map (Value.int .u32))[j]? = some v → w.cell? ((⟨b, 0, none⟩ : Addr).add j) = some v := fun j v hv => by
    obtain ⟨h1, rfl⟩ := lz_map hv
    have h2 : j < n := by rw [List.length_take] at h1; omega
    rw [lz_take, if_pos h2, Addr.add_lit, Nat.zero_add]
    exact hr.cell (by omega)
   have hr' := run_append_grow (P := Tryz.prog) w 22 ty 73 i0 (.int .u32 0) Tryz.underlying22 hi hz0 ⟨b, 0, none⟩ n cap ((zs.take n).map (Value.int .u32)) (by rw [hz1]; simp; omega) holds a m c (news.map (Value.int .u32)) (by rw [hz1]; simp [hl]) hnv (by omega) (by omega) (growslice_fits (by omega) (by rw [hz2]; omega))
   have hge := grownCap_ge w (n + m) cap 73
   have hcm : grownCap w (n + m) cap 73 ≤ maxLen := grownCap_le_maxLen w (n + m) cap 73 (by unfold maxLen; omega)
   rw [zeroCells_eq] at hr'
   rw [show (news.map (Value.int .u32)).toArray = U news from rfl, show ((zs.take n).map (Value.int .u32)).toArray = U (zs.take n) from rfl, U_append, U_append] at hr'
   refine ⟨_, _, hr', _, _, rfl, ⟨below_drew_alloc hB _, .inr ⟨_, _, rfl, by have := hB.size; omega, row_drew_alloc w _, ((hlz.take n).append hL).append (Limbs.replicate _), by simp [hl]; omega, by omega, by unfold maxLen at hcm; omega, ?_⟩⟩, grown_drew_alloc w _ _, fun k h => .inr (by cases h; exact Nat.le_refl _)⟩
   have e : (zs.take n ++ news).length = n + m := by simp [hl]; omega
   rw [← e, List.take_left]

end Go.Proofs.YtjhhknfnaobmiaaGreatDoor
