/-
 Several texts in one: W1, W2, W3, W4, W5, App, W6, W7, W8.
-/
import Derived.Test.YtcgdhbgjmapoeaaDoorChecked
import Derived.Test.YtcgdhbgjmapoeaaDoorP00
import Derived.WalkKit
import Derived.WalkLawsBesides
import Derived.WalkMore
import Derived.Deep.QuietTactic
import Derived.BigQuiet
namespace Go.Proofs.YtcgdhbgjmapoeaaDoor
open Go.RowKit

theorem ret_slice {a b : Option Addr} {n m c d : Nat} (h : a = b) (h1 : n = m) (h2 : c = d) : Ending.returned (.slice a n c) = .returned (.slice b m d) := by rw [h, h1, h2]

set_option maxHeartbeats 400000 in
theorem bare_walk (b off len cap : Nat) (zs : List Int) (w : World) (hcap : len ≤ cap) (hbig : cap ≤ 9223372036854775807)
  (hc : ∀ j, j < len → w.cell? ⟨b, off + j, none⟩ = some (.int .u32 (lz zs j))) :
  Calls Tryd.prog 49 #[.slice (some ⟨b, off, none⟩) len cap] w fun e w' => e = .returned (.slice (some ⟨b, off, none⟩) (tl zs len) cap) ∧ w = w' := by
 go_enter Tryd.func49, Tryd.ntmps49
 go_wp2
 go_step3
 go_wp2
 go_step3
 go_wp2
 go_loop [3] (fun n => ∃ k : Nat, k ≤ len ∧ n = .int .i64 k ∧ tl zs len = tl zs k) (fun n => (intOf n).toNat)
 case atStart => exact ⟨len, Nat.le_refl _, rfl, rfl⟩
 case round =>
  obtain ⟨k, hk, rfl, ht⟩ := hrel
  have HT : Hid (tl zs len = tl zs k) := ht
  clear ht
  cases k with
  | zero =>
   go_wp2
   go_ret
   exact ⟨ret_slice rfl (by rw [HT.out]; rfl) rfl, rfl⟩
  | succ m =>
   have hcm := hc m (by omega)
   by_cases hz0 : lz zs m = 0
   ·have HZ : Hid (lz zs m = 0) := hz0
    have hz1 : (lz zs m == 0) = true := by simp [hz0]
    clear hz0
    go_wp2
    go_round
    case rel => exact ⟨m, by omega, by go_num, by rw [HT.out]; conv => lhs; rw [tl, if_pos HZ.out]⟩
    case measure => simp [intOf]
   ·have HZ : Hid (¬ lz zs m = 0) := hz0
    have hz1 : (lz zs m == 0) = false := by simp [hz0]
    clear hz0
    go_wp2
    go_ret
    exact ⟨ret_slice rfl (by rw [HT.out, tl, if_neg HZ.out]) rfl, rfl⟩

set_option maxHeartbeats 400000 in
theorem bare_none (a : Option Addr) (cap : Nat) (w : World) (hbig : cap ≤ 9223372036854775807) (hn : a = none → cap = 0) :
  Calls Tryd.prog 49 #[.slice a 0 cap] w fun e w' => e = .returned (.slice a 0 cap) ∧ w = w' := by
 cases a with
 | none =>
  obtain rfl := hn rfl
  go_enter Tryd.func49, Tryd.ntmps49
  go_wp2
  go_step3
  go_wp2
  go_step3
  go_wp2
  refine wp_loop_rounds 1 ?_
  rw [rounds_succ]
  go_wp2
  rw [Exit.noGoto_ret]
  go_ret
  exact ⟨rfl, rfl⟩
 | some a =>
  go_enter Tryd.func49, Tryd.ntmps49
  go_wp2
  go_step3
  go_wp2
  go_step3
  go_wp2
  refine wp_loop_rounds 1 ?_
  rw [rounds_succ]
  go_wp2
  rw [Exit.noGoto_ret]
  go_ret
  exact ⟨rfl, rfl⟩

/-- bare: the same memory, without the noughts at the end. -/
theorem bare_any {ad : Option Addr} {len cap : Nat} {zs : List Int} {w : World} (h : Rd w ad len cap zs) :
  Calls Tryd.prog 49 #[.slice ad len cap] w fun e w' => e = .returned (.slice ad (tl zs len) cap) ∧ w = w' := by
 obtain ⟨h1, h2, h3, h4, h5⟩ := h
 rcases h5 with ⟨rfl, rfl, rfl⟩ | ⟨a, rfl, rfl | ⟨b, off, rfl, _, hc⟩⟩
 ·exact bare_none none 0 w (by decide) (fun _ => rfl)
 ·exact bare_none (some a) cap w h3 (fun h => by cases h)
 ·exact bare_walk b off len cap zs w h2 h3 hc

set_option maxHeartbeats 400000 in
/-- limb: the limb at a place; 0 behind the end. -/
theorem limb_any {ad : Option Addr} {len cap : Nat} {zs : List Int} {w : World} (h : Rd w ad len cap zs) (i : Int) (h0 : 0 ≤ i) (hi : i ≤ 9223372036854775807) :
  Calls Tryd.prog 51 #[.slice ad len cap, .int .i64 i] w fun e w' => e = .returned (.int .u64 (lz zs i.toNat)) ∧ w = w' := by
 obtain ⟨n, rfl⟩ := Int.eq_ofNat_of_zero_le h0
 rw [Int.toNat_natCast]
 obtain ⟨h1, h2, h3, h4, h5⟩ := h
 by_cases hlt : n < len
 ·rcases h5 with ⟨_, h6, _⟩ | ⟨a, rfl, h6 | ⟨b, off, rfl, _, hc⟩⟩
  ·omega
  ·omega
  ·have hcn := hc n hlt
   have hb := lz_bd h4 n
   clear hc
   go_enter Tryd.func51, Tryd.ntmps51
   go_wp2
   go_ret
   exact ⟨rfl, rfl⟩
 ·have hz := lz_out (zs := zs) (i := n) (by omega)
  have HZ : Hid (lz zs n = 0) := hz
  clear hz h5
  go_enter Tryd.func51, Tryd.ntmps51
  go_wp2
  go_ret
  rw [HZ.out]
  exact ⟨rfl, rfl⟩

end Go.Proofs.YtcgdhbgjmapoeaaDoor

namespace Go.Proofs.YtcgdhbgjmapoeaaDoor
open Go.RowKit

/-- the cells of a slice with an element, by its address -/
theorem Rd.some {w : World} {ad : Option Addr} {len cap : Nat} {zs : List Int} (h : Rd w ad len cap zs) (hp : 0 < len) : ∃ b off, ad = some ⟨b, off, none⟩ ∧ ∀ i, i < len → w.cell? ⟨b, off + i, none⟩ = some (.int .u32 (lz zs i)) := by
 obtain ⟨h1, h2, h3, h4, h5⟩ := h
 rcases h5 with ⟨_, h6, _⟩ | ⟨a, rfl, h6 | ⟨b, off, rfl, _, hc⟩⟩
 ·omega
 ·omega
 ·exact ⟨b, off, rfl, hc⟩

theorem ret_int {k : IntKind} {a b : Int} (h : a = b) : Ending.returned (.int k a) = .returned (.int k b) := by rw [h]

end Go.Proofs.YtcgdhbgjmapoeaaDoor

namespace Go.Proofs.YtcgdhbgjmapoeaaDoor
open Go.RowKit

theorem info49 : (Tryd.prog.info? 55).map (fun i => (i.zero, i.size, i.bytes)) = some (some (.int .u32 0), 1, 4) := by kernel_rfl

theorem made_zero (n : Nat) : madeCells #[.int .u32 0] n = U (List.replicate n 0) := by
  apply Array.ext'
  rw [toList_madeCells_one]
  simp [U]

theorem run_mk (n : Nat) (hn : n ≤ 70368744177664) (u : World) : (Instr.makeSlice 40 (.int .i64 (n : Int)) (.int .i64 (n : Int))).run Tryd.prog u =
      .ok (.slice (some ⟨u.heap.size, 0, none⟩) n n) (u.alloc (.cells (U (List.replicate n 0)) 55)) := by
  obtain ⟨i0, hi, hz0, hz1, hz2⟩ := info_parts info49
  have h := run_make (P := Tryd.prog) u 40 55 i0 (.int .u32 0) Tryd.underlying40 hi hz0 .i64 .i64 (n : Int) (n : Int) (by omega) (Int.le_refl _) (by rw [hz2]; omega) (by omega)
  rw [Int.toNat_natCast] at h
  rw [← made_zero]
  simpa [hz1, Value.cells] using h

theorem run_mk' (n : Nat) (hn : n + 1 ≤ 70368744177664) (u : World) : (Instr.makeSlice 40 (.int .i64 ((n : Int) + 1)) (.int .i64 ((n : Int) + 1))).run Tryd.prog u =
      .ok (.slice (some ⟨u.heap.size, 0, none⟩) (n + 1) (n + 1)) (u.alloc (.cells (U (List.replicate (n + 1) 0)) 55)) := run_mk (n + 1) hn u

theorem row_alloc (w : World) (xs : List Int) : Row (w.alloc (.cells (U xs) 55)) w.heap.size xs := heap_alloc_new w _

theorem mask64 (x : Int) (h0 : 0 ≤ x) (h1 : x < 18446744073709551616) : bits .and .u64 x 4294967295 = x % 4294967296 := by
  rw [u64_and x 4294967295 h0 h1 (by decide) (by decide)]
  have e : (4294967295 : Int).toNat = 2 ^ 32 - 1 := by decide
  rw [e, Nat.and_two_pow_sub_one_eq_mod]
  omega

end Go.Proofs.YtcgdhbgjmapoeaaDoor

namespace Go.Proofs.YtcgdhbgjmapoeaaDoor
open Go.RowKit

theorem below_drewN (B : Nat) (w : World) (q : Nat) : Below B w (w.drewN q) := ⟨rfl, rfl, rfl, Nat.le_refl _, fun _ _ => rfl⟩
end Go.Proofs.YtcgdhbgjmapoeaaDoor

namespace Go.Proofs.YtcgdhbgjmapoeaaDoor
open Go.RowKit

end Go.Proofs.YtcgdhbgjmapoeaaDoor

namespace Go.Proofs.YtcgdhbgjmapoeaaDoor
open Go.RowKit

theorem wpList_append_run {P : Program} {w : World} {ops : Array Oper} {rest : List Oper} {o : Oper} {a : Act} {Q : Exit → Act → World → Prop} (hgd : o.guard = none) (s x : Operand) (t : TypeId)
  (ho : o.op = .call { callee := .builtin .append, args := #[s, x], argTypes := #[t, t] }) (v1 v2 : Value) (hs : a.eval s = v1) (hx : a.eval x = v2) (F : Value → World → Prop)
  (hr : ∃ v' w', (Builtin.append_ #[t, t] o.type #[v1, v2]).run P w = .ok v' w' ∧ F v' w')
  (h : ∀ v' w', F v' w' → wpList P ops Q rest (a.put o.dst v') w') : wpList P ops Q (o :: rest) a w := by
 obtain ⟨v', w', hr, hF⟩ := hr
 refine wpList_plain hgd fun K hK => ?_
 unfold Oper.wp execOp
 simp only [ho, resolve, invoke, builtin, Sem.run_bind, Sem.run_pure, Result.andThen_ok, List.map_toArray, List.map_cons, List.map_nil, hs, hx, hr]
 exact hK _ _ (h v' w' hF)

theorem zeroCells_eq (n : Nat) : Builtin.zeroCells (Value.int .u32 0).cells n = U (List.replicate n 0) := by
 apply Array.ext'
 apply List.ext_getElem?
 intro j
 by_cases hj : j < n
 ·simp [Builtin.zeroCells, Value.cells, U, hj, Nat.mod_one]
 ·simp [Builtin.zeroCells, Value.cells, U, hj]

theorem U_append (xs ys : List Int) : U xs ++ U ys = U (xs ++ ys) := by simp [U]

theorem row_drew_alloc (w : World) (xs : List Int) : Row (w.drew.alloc (.cells (U xs) 55)) w.heap.size xs := heap_alloc_new w.drew _

theorem Limbs.append {xs ys : List Int} (h : Limbs xs) (k : Limbs ys) : Limbs (xs ++ ys) := fun z hz => (List.mem_append.1 hz).elim (h z) (k z)
theorem Limbs.drop {zs : List Int} (h : Limbs zs) (n : Nat) : Limbs (zs.drop n) := fun z hz => h z (List.mem_of_mem_drop hz)

theorem lz_map {xs : List Int} {j : Nat} {v : Value} (h : (xs.map (Value.int .u32))[j]? = some v) : j < xs.length ∧ v = .int .u32 (lz xs j) := by
 rw [List.getElem?_map] at h
 cases hq : xs[j]? with
 | none => rw [hq] at h; cases h
 | some y =>
  rw [hq] at h
  simp only [Option.map_some, Option.some.injEq] at h
  refine ⟨(List.getElem?_eq_some_iff.1 hq).1, ?_⟩
  rw [← h]
  simp [lz, List.getD, hq]

theorem info49a : (Tryd.prog.info? 55).map (fun i => (i.zero, i.size, i.bytes)) = some (some (.int .u32 0), 1, 4) := by kernel_rfl

theorem below_drew_alloc {w0 w : World} (h : Below w0.heap.size w0 w) (o : Obj) : Below w0.heap.size w0 (w.drew.alloc o) :=
 (h.drew).alloc (by have := h.size; simpa using this) o

theorem grown_drew_alloc (w : World) (o : Obj) (row : Option Nat) : w.grownBy (w.drew.alloc o) row :=
 ⟨rfl, rfl, rfl, by simp, fun k hk _ => Below.heap_alloc w.drew o k hk⟩

/-- append onto an answer of the call's own, from cells that lie somewhere -/
theorem run_append_out {w0 w : World} {ad : Option Addr} {n cap : Nat} {xs : List Int} (hO : Out w0 w ad n cap xs) (ty : TypeId) (a : Addr) (m c : Nat) (news : List Int) (hl : news.length = m) (hL : Limbs news)
  (hnews : ∀ j, j < m → w.cell? (a.add j) = some (.int .u32 (lz news j))) (hbig : n + m ≤ 35184372088832) :
  ∃ v' w', (Builtin.append_ #[40, 40] ty #[.slice ad n cap, .slice (some a) m c]).run Tryd.prog w = .ok v' w' ∧ ∃ ad' cap', v' = .slice ad' (n + m) cap' ∧ Out w0 w' ad' (n + m) cap' (xs ++ news) ∧ w.grownBy w' (blk ad) ∧ (∀ k, blk ad' = some k → blk ad = some k ∨ w.heap.size ≤ k) := by
 obtain ⟨i0, hi, hz0, hz1, hz2⟩ := info_parts info49a
 have hnv : ∀ j v, (news.map (Value.int .u32))[j]? = some v → w.cell? (a.add j) = some v := fun j v hv => by
  obtain ⟨h1, rfl⟩ := lz_map hv
  exact hnews j (by omega)
 have hone : ∀ u ∈ news.map (Value.int .u32), u.oneCell' = true := fun u hu => by
  obtain ⟨z, _, rfl⟩ := List.mem_map.1 hu; rfl
 obtain ⟨hB, ⟨rfl, rfl, rfl, rfl⟩ | ⟨b, zs, rfl, hb, hr, hlz, hzl, hle, hm, rfl⟩⟩ := hO
 ·by_cases h0 : m = 0
  ·subst h0
   obtain rfl : news = [] := List.eq_nil_of_length_eq_zero hl
   refine ⟨.slice none 0 0, w, ?_, none, 0, rfl, ⟨hB, .inl ⟨rfl, rfl, rfl, rfl⟩⟩, ⟨rfl, rfl, rfl, Nat.le_refl _, fun _ _ _ => rfl⟩, fun k h => .inl h⟩
   simp [Builtin.append_, run_underlying Tryd.underlying40, sizeOf, typeInfo, hi, Builtin.lenOf, Builtin.firstCells, loadCells, loadCellsFrom]
  ·have hr := run_append_nil (P := Tryd.prog) w 40 ty 55 i0 (.int .u32 0) Tryd.underlying40 hi hz0 a m c (news.map (Value.int .u32)) (by rw [hz1]; simp [hl]) hnv (by omega) (by omega) (by rw [hz2]; omega)
   have hge := grownCap_ge w m 0 55
   have hcm : grownCap w m 0 55 ≤ maxLen := grownCap_le_maxLen w m 0 55 (by unfold maxLen; omega)
   rw [zeroCells_eq] at hr
   rw [show (news.map (Value.int .u32)).toArray = U news from rfl, U_append] at hr
   refine ⟨_, _, hr, _, _, by rw [Nat.zero_add], ⟨below_drew_alloc hB _, .inr ⟨_, _, rfl, by have := hB.size; omega, row_drew_alloc w _, hL.append (Limbs.replicate _), by simp [hl]; omega, by omega, by unfold maxLen at hcm; omega, ?_⟩⟩, grown_drew_alloc w _ _, fun k h => .inr (by cases h; exact Nat.le_refl _)⟩
   rw [Nat.zero_add, List.nil_append, ← hl, List.take_left]
 ·by_cases hroom : n + m ≤ cap
  ·have hr' := run_append_room (P := Tryd.prog) w 40 ty 55 i0 Tryd.underlying40 hi b n cap (U zs) hr a m c (news.map (Value.int .u32)) (by rw [hz1]; simp [hl]) hnv hone hroom (by rw [hz1, U_size]; simp [hl]; omega)
   refine ⟨_, _, hr', some ⟨b, 0, none⟩, cap, rfl, ⟨?_, .inr ⟨b, zs.take n ++ news ++ zs.drop (n + m), rfl, hb, ?_, ((hlz.take n).append hL).append (hlz.drop _), by simp [hl]; omega, hroom, hm, ?_⟩⟩, ⟨rfl, rfl, rfl, by simp, fun k _ hk => setRow_other w b k _ (fun e => hk (by simp [blk, e]))⟩, fun k h => .inl h⟩
   ·exact hB.trans ⟨rfl, rfl, rfl, by simp, fun k hk => setRow_other w b k _ (by omega)⟩
   ·have := setRow_heap w b (U zs) ((U zs).toList.take (n * i0.size) ++ news.map (Value.int .u32) ++ (U zs).toList.drop (n * i0.size + (news.map (Value.int .u32)).length)).toArray 55 (0, 0) hr
    rw [Row, this]
    simp [U, hz1, hl, List.map_take, List.map_drop]
   ·have e : (zs.take n ++ news).length = n + m := by simp [hl]; omega
    rw [← e, List.take_left]
  ·have holds : ∀ j v, ((zs.take n).map (Value.int .u32))[j]? = some v → w.cell? ((⟨b, 0, none⟩ : Addr).add j) = some v := fun j v hv => by
    obtain ⟨h1, rfl⟩ := lz_map hv
    have h2 : j < n := by rw [List.length_take] at h1; omega
    rw [lz_take, if_pos h2, Addr.add_lit, Nat.zero_add]
    exact hr.cell (by omega)
   have hr' := run_append_grow (P := Tryd.prog) w 40 ty 55 i0 (.int .u32 0) Tryd.underlying40 hi hz0 ⟨b, 0, none⟩ n cap ((zs.take n).map (Value.int .u32)) (by rw [hz1]; simp; omega) holds a m c (news.map (Value.int .u32)) (by rw [hz1]; simp [hl]) hnv (by omega) (by omega) (growslice_fits (by omega) (by rw [hz2]; omega))
   have hge := grownCap_ge w (n + m) cap 55
   have hcm : grownCap w (n + m) cap 55 ≤ maxLen := grownCap_le_maxLen w (n + m) cap 55 (by unfold maxLen; omega)
   rw [zeroCells_eq] at hr'
   rw [show (news.map (Value.int .u32)).toArray = U news from rfl, show ((zs.take n).map (Value.int .u32)).toArray = U (zs.take n) from rfl, U_append, U_append] at hr'
   refine ⟨_, _, hr', _, _, rfl, ⟨below_drew_alloc hB _, .inr ⟨_, _, rfl, by have := hB.size; omega, row_drew_alloc w _, ((hlz.take n).append hL).append (Limbs.replicate _), by simp [hl]; omega, by omega, by unfold maxLen at hcm; omega, ?_⟩⟩, grown_drew_alloc w _ _, fun k h => .inr (by cases h; exact Nat.le_refl _)⟩
   have e : (zs.take n ++ news).length = n + m := by simp [hl]; omega
   rw [← e, List.take_left]

end Go.Proofs.YtcgdhbgjmapoeaaDoor

namespace Go.Proofs.YtcgdhbgjmapoeaaDoor
open Go.RowKit

theorem ret_bool {a b : Bool} (h : a = b) : Ending.returned (.bool a) = .returned (.bool b) := by rw [h]

theorem out_none (w : World) : Out w w none 0 0 [] := ⟨Below.refl _ _, .inl ⟨rfl, rfl, rfl, rfl⟩⟩

end Go.Proofs.YtcgdhbgjmapoeaaDoor

namespace Go.Proofs.YtcgdhbgjmapoeaaDoor
open Go.RowKit

end Go.Proofs.YtcgdhbgjmapoeaaDoor

namespace Go.Proofs.YtcgdhbgjmapoeaaDoor
open Go.RowKit

theorem tl_congr {xs ys : List Int} {n : Nat} (h : ∀ i, i < n → lz xs i = lz ys i) : tl xs n = tl ys n := by
 induction n with
 | zero => rfl
 | succ n ih => unfold tl; rw [h n (by omega), ih (fun i hi => h i (by omega))]

theorem Row.below {w w' : World} {b : Nat} {xs : List Int} (h : Row w b xs) (hb : Below w.heap.size w w') : Row w' b xs := by
 unfold Row; rw [hb.block b h.lt]; exact h

/-- what came out stays behind later work in newer memory -/
theorem Out.later {w0 w w' : World} {ad : Option Addr} {len cap : Nat} {zs : List Int} (h : Out w0 w ad len cap zs) (hb : Below w.heap.size w w') : Out w0 w' ad len cap zs := by
 obtain ⟨h1, h2⟩ := h
 refine ⟨h1.trans (hb.mono h1.size), ?_⟩
 rcases h2 with h2 | ⟨b, xs, h3, h4, h5, h6⟩
 ·exact .inl h2
 ·exact .inr ⟨b, xs, h3, h4, h5.below hb, h6⟩

/-- an answer made later is an answer of the whole -/
theorem Out.outer {w0 w w' : World} {ad : Option Addr} {len cap : Nat} {zs : List Int} (h : Out w w' ad len cap zs) (hb : Below w0.heap.size w0 w) : Out w0 w' ad len cap zs := by
 obtain ⟨h1, h2⟩ := h
 refine ⟨hb.trans (h1.mono hb.size), ?_⟩
 rcases h2 with h2 | ⟨b, xs, h3, h4, h6⟩
 ·exact .inl h2
 ·exact .inr ⟨b, xs, h3, Nat.le_trans hb.size h4, h6⟩

end Go.Proofs.YtcgdhbgjmapoeaaDoor
