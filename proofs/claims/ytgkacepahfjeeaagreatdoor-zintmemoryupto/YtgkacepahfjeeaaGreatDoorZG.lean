/-
  What ZintMemory asks: a number that is lent, that stays, and an owner's writing.
-/
import Derived.Test.YtgkacepahfjeeaaGreatDoorZF2
import Derived.Deep.QuietTactic
import Derived.BigQuiet
namespace Go.Proofs.YtgkacepahfjeeaaGreatDoor
open Go.RowKit

theorem run_mk0 (n : Nat) (hn : n ≤ 70368744177664) (u : World) : (Instr.makeSlice 24 (.int .i64 0) (.int .i64 (n : Int))).run Tryz.prog u =
      .ok (.slice (some ⟨u.heap.size, 0, none⟩) 0 n) (u.alloc (.cells (U (List.replicate n 0)) 42)) := by
  obtain ⟨i0, hi, hz0, hz1, hz2⟩ := info_parts info49
  have h := run_make (P := Tryz.prog) u 24 42 i0 (.int .u32 0) Tryz.underlying24 hi hz0 .i64 .i64 0 (n : Int) (by omega) (by omega) (by rw [hz2]; omega) (by omega)
  rw [Int.toNat_natCast] at h
  rw [← made_zero]
  simpa [hz1, Value.cells] using h

/-- append within the room of a row -/
theorem run_append_in {w : World} {b n cap : Nat} {zs : List Int} (hr : Row w b zs) (hzl : zs.length = cap) (ty : TypeId) {ad : Option Addr} {m c : Nat} {news : List Int} (hn : Rd w ad m c news) (hroom : n + m ≤ cap) :
    ∃ w', (Builtin.append_ #[24, 24] ty #[.slice (some ⟨b, 0, none⟩) n cap, .slice ad m c]).run Tryz.prog w = .ok (.slice (some ⟨b, 0, none⟩) (n + m) cap) w' ∧ Row w' b (zs.take n ++ news ++ zs.drop (n + m)) ∧ Only b w w' := by
  obtain ⟨i0, hi, hz0, hz1, hz2⟩ := info_parts info49a
  have hl : news.length = m := hn.1
  have hone : ∀ u ∈ news.map (Value.int .u32), u.oneCell' = true := fun u hu => by
    obtain ⟨z, _, rfl⟩ := List.mem_map.1 hu; rfl
  obtain ⟨_, _, _, _, ⟨rfl, rfl, rfl⟩ | ⟨a, rfl, h5⟩⟩ := hn
  · obtain rfl : news = [] := List.eq_nil_of_length_eq_zero hl
    refine ⟨w, ?_, by simpa using hr, Only.refl _ _⟩
    simp [Builtin.append_, run_underlying Tryz.underlying24, sizeOf, typeInfo, hi, Builtin.lenOf, Builtin.firstCells, loadCells, storeCells, show n ≤ cap by omega]
  · have hnv : ∀ j v, (news.map (Value.int .u32))[j]? = some v → w.cell? (a.add j) = some v := fun j v hv => by
      obtain ⟨h1, rfl⟩ := lz_map hv
      rcases h5 with h5 | ⟨x, off, rfl, _, hc⟩
      · omega
      · rw [Addr.add_lit]
        exact hc j (by omega)
    have hr' := run_append_room (P := Tryz.prog) w 24 ty 42 i0 Tryz.underlying24 hi b n cap (U zs) hr a m c (news.map (Value.int .u32)) (by rw [hz1]; simp [hl]) hnv hone hroom (by rw [hz1, U_size]; simp [hl]; omega)
    refine ⟨_, hr', ?_, ⟨rfl, rfl, rfl, by simp, fun k hk => setRow_other w b k _ hk⟩⟩
    have := setRow_heap w b (U zs) ((U zs).toList.take (n * i0.size) ++ news.map (Value.int .u32) ++ (U zs).toList.drop (n * i0.size + (news.map (Value.int .u32)).length)).toArray 42 (0, 0) hr
    rw [Row, this]
    simp [U, hz1, hl, List.map_take, List.map_drop]

set_option maxRecDepth 100000 in
set_option maxHeartbeats 1600000 in
/-- a number that is lent: its limbs, and two marks behind them -/
theorem zlent_any {s : Bool} {a : Option Addr} {l c : Nat} {xs : List Int} {w : World} (h : Rd w a l c xs) (hl : l ≤ 1099511627776) :
    Calls Tryz.prog 6 #[.agg #[.bool s, .slice a l c]] w fun e w' => ∃ b, e = .returned (.agg #[.bool s, .slice (some ⟨b, 0, none⟩) l (l + 2)]) ∧ Below w.heap.size w w' ∧ w.heap.size ≤ b ∧ Row w' b (xs ++ [77, 78]) := by
  have hxl := h.1
  have hlim := h.2.2.2.1
  have x := (zb_new w s a l c).below (below_alloc _ (.cells #[.bool false, .slice none 0 0] 26))
  have y := zb_new (w.alloc (.cells #[.bool s, .slice a l c] 26)) false none 0 0
  have b0 : Below w.heap.size w ((w.alloc (.cells #[.bool s, .slice a l c] 26)).alloc (.cells #[.bool false, .slice none 0 0] 26)) := below_alloc' (below_alloc _ _) _
  rw [show (w.alloc (.cells #[.bool s, .slice a l c] 26)).heap.size = w.heap.size + 1 from by simp] at y
  have hmk : ∀ u : World, (Instr.makeSlice 24 (.int .i64 0) (.int .i64 ((l : Int) + 2))).run Tryz.prog u =
      .ok (.slice (some ⟨u.heap.size, 0, none⟩) 0 (l + 2)) (u.alloc (.cells (U (List.replicate (l + 2) 0)) 42)) := run_mk0 (l + 2) (by omega)
  have r0 := row_alloc ((w.alloc (.cells #[.bool s, .slice a l c] 26)).alloc (.cells #[.bool false, .slice none 0 0] 26)) (List.replicate (l + 2) 0)
  rw [show ((w.alloc (.cells #[.bool s, .slice a l c] 26)).alloc (.cells #[.bool false, .slice none 0 0] 26)).heap.size = w.heap.size + 1 + 1 from by simp] at r0
  have hd := (h.below b0).below (below_alloc _ (.cells (U (List.replicate (l + 2) 0)) 42))
  obtain ⟨w1, hrun, hr1, ho1⟩ := run_append_in (n := 0) (cap := l + 2) r0 (by simp) 24 hd (by omega)
  rw [Nat.zero_add] at hrun hr1
  have hb1 : Below w.heap.size w w1 := (below_alloc' b0 _).trans (ho1.below (by omega))
  have x1 := (x.below (below_alloc _ (.cells (U (List.replicate (l + 2) 0)) 42))).only ho1 (by omega)
  have y1 := (y.below (below_alloc _ (.cells (U (List.replicate (l + 2) 0)) 42))).only ho1 (by omega)
  rw [show (List.replicate (l + 2) (0 : Int)).take 0 ++ xs ++ (List.replicate (l + 2) (0 : Int)).drop l = xs ++ [0, 0] by rw [List.take_zero, List.nil_append, List.drop_replicate, show l + 2 - l = 2 by omega]; rfl] at hr1
  have hrA := hr1.set l 77
  have hrB := hrA.set (l + 1) 78
  have cA := hr1.cell (i := l) (by simp [hxl])
  have fA := hr1.frozen l
  have cB := hrA.cell (i := l + 1) (by simp [hxl])
  have fB := hrA.frozen (l + 1)
  have u0 := x1.c0
  have u1 := x1.c1
  have xA := x1.only (Only.set (w.heap.size + 1 + 1) l w1 (.int .u32 77)) (by omega)
  have xB := xA.only (Only.set (w.heap.size + 1 + 1) (l + 1) _ (.int .u32 78)) (by omega)
  have yB := (y1.only (Only.set (w.heap.size + 1 + 1) l w1 (.int .u32 77)) (by omega)).only (Only.set (w.heap.size + 1 + 1) (l + 1) _ (.int .u32 78)) (by omega)
  have uA := xA.c1
  have uB := xB.c0
  have v0 := yB.c0
  have v1 := yB.c1
  have v2 := yB.f 0
  have v3 := yB.f 1
  clear hr1 hrA r0 hd x y x1 y1 xA xB
  go_enter Tryz.func6, Tryz.ntmps6
  go_wp2_with (at_builtin; refine wpList_append_run rfl _ _ 24 rfl _ _ rfl rfl (fun v' w' => v' = .slice (some ⟨w.heap.size + 1 + 1, 0, none⟩) l (l + 2) ∧ w1 = w') ⟨_, _, hrun, rfl, rfl⟩ ?_; rintro v' w' ⟨rfl, rfl⟩)
  refine bodyPost_ret (results_cell_row rfl _ _ (w.heap.size + 1) 26 _ (0, 0) _ rfl (zb_fin yB s (some ⟨w.heap.size + 1 + 1, 0, none⟩) l (l + 2)) Tryz.underlying26 rfl (by kernel_rfl)) rfl ?_
  have hle : ((xs ++ [0, 0]).set l 77).set (l + 1) 78 = xs ++ [77, 78] := by
    subst hxl
    simp
  rw [hle] at hrB
  refine ⟨w.heap.size + 1 + 1, by simp, ?_, by omega, ?_⟩
  · exact (((hb1.setCell (by show w.heap.size ≤ w.heap.size + 1 + 1; omega) _).setCell (by show w.heap.size ≤ w.heap.size + 1 + 1; omega) _).setCell (by show w.heap.size ≤ w.heap.size + 1; omega) _).setCell (by show w.heap.size ≤ w.heap.size + 1; omega) _
  · exact hrB.only (only2 (w.heap.size + 1) _ _ _) (by omega)

set_option maxRecDepth 100000 in
set_option maxHeartbeats 1600000 in
theorem zover_row {s : Bool} {b len cap : Nat} {ys : List Int} {w : World} (h : Row w b ys) (hy : ys.length = cap) (hc : cap ≤ 9223372036854775807) (hl : len ≤ cap) :
    Calls Tryz.prog 13 #[.agg #[.bool s, .slice (some ⟨b, 0, none⟩) len cap]] w fun e w' => (∃ v, e = .returned v) ∧ Below b w w' ∧ (∀ k, k < w.heap.size → k ≠ b → w'.heap[k]? = w.heap[k]?) := by
  have hlt := Fresh.row_lt h
  have x := zb_new w s (some ⟨b, 0, none⟩) len cap
  have b0 := below_alloc w (.cells #[.bool s, .slice (some ⟨b, 0, none⟩) len cap] 26)
  have h1 : Row (w.alloc (.cells #[.bool s, .slice (some ⟨b, 0, none⟩) len cap] 26)) b ys := (b0.block b hlt).trans h
  have u1 := x.c1
  go_enter Tryz.func13, Tryz.ntmps13
  go_wp2_with fail
  generalize w.alloc (.cells #[.bool s, .slice (some ⟨b, 0, none⟩) len cap] 26) = wb at *
  go_loopw [3] (fun i wr => ∃ (k : Nat) (zs : List Int), k ≤ cap ∧ i = .int .i64 k ∧ zs.length = cap ∧ Row wr b zs ∧ Only b wb wr) (fun i _ => cap - (intOf i).toNat)
  case atStart => exact ⟨0, ys, Nat.zero_le _, rfl, hy, h1, Only.refl _ _⟩
  case round =>
    obtain ⟨k, zs, hk, rfl, hzl, hrow, hon⟩ := hrel
    by_cases hkN : k < cap
    · have hcell := hrow.cell (i := k) (by omega)
      have hfr := hrow.frozen k
      go_wp2
      exact ⟨⟨k + 1, _, by omega, by go_num, by rw [List.length_set]; exact hzl, hrow.set k _, hon.trans (Only.set _ _ _ _)⟩, by simp [intOf]; omega⟩
    · obtain rfl : k = cap := by omega
      go_wp2
      exact ⟨rfl, _, results_none rfl _ _ _, ⟨_, rfl⟩, (b0.mono (Nat.le_of_lt hlt)).trans (hon.below (Nat.le_refl _)), fun j h1 h2 => (hon.block j h2).trans (b0.block j h1)⟩

set_option maxRecDepth 100000 in
set_option maxHeartbeats 1600000 in
theorem zover_nil {s : Bool} {w : World} :
    Calls Tryz.prog 13 #[.agg #[.bool s, .slice none 0 0]] w fun e w' => (∃ v, e = .returned v) ∧ Below w.heap.size w w' := by
  have b0 := below_alloc w (.cells #[.bool s, .slice none 0 0] 26)
  have u1 := (zb_new w s none 0 0).c1
  go_enter Tryz.func13, Tryz.ntmps13
  go_wp2
  generalize w.alloc (.cells #[.bool s, .slice none 0 0] 26) = wb at *
  go_loopw [3] (fun i wr => i = .int .i64 0 ∧ wb = wr) (fun _ _ => 0)
  case atStart => exact ⟨rfl, rfl⟩
  case round =>
    obtain ⟨rfl, rfl⟩ := hrel
    go_wp2
    exact ⟨rfl, _, results_none rfl _ _ _, ⟨_, rfl⟩, b0⟩

/-- an owner's writing into an answer: what lies elsewhere stays -/
theorem zover_any {B : Nat} {s : Bool} {ad : Option Addr} {len cap : Nat} {w : World} (h : Fresh.Fr B w ad cap) (hB : B ≤ w.heap.size) (hl : len ≤ cap) :
    Calls Tryz.prog 13 #[.agg #[.bool s, .slice ad len cap]] w fun e w' => (∃ v, e = .returned v) ∧ Below B w w' ∧ (∀ k, k < w.heap.size → blk ad ≠ some k → w'.heap[k]? = w.heap[k]?) := by
  rcases h with ⟨rfl, rfl⟩ | ⟨b, ys, rfl, h2, h3, h4, h5⟩
  · obtain rfl : len = 0 := by omega
    refine zover_nil.mono ?_
    rintro e w' ⟨hv, hb⟩
    exact ⟨hv, hb.mono hB, fun k h1 _ => hb.block k h1⟩
  · refine (zover_row h3 h4 h5 hl).mono ?_
    rintro e w' ⟨hv, hb, hk⟩
    exact ⟨hv, hb.mono h2, fun k h1 h2 => hk k h1 (fun e => h2 (by rw [e]; rfl))⟩

set_option maxRecDepth 100000 in
set_option maxHeartbeats 1600000 in
theorem zstays_t {s : Bool} {a : Option Addr} {b l c : Nat} {xs : List Int} {w : World} (hr : Row w b (xs ++ [77, 78])) (h : Rd w a l c xs) (hl : l ≤ 1099511627776) :
    Calls Tryz.prog 9 #[.agg #[.bool s, .slice (some ⟨b, 0, none⟩) l (l + 2)], .agg #[.bool s, .slice a l c]] w fun e w' => e = .returned (.bool true) ∧ Below w.heap.size w w' := by
  have hxl := h.1
  have hlt := Fresh.row_lt hr
  have b0 : Below w.heap.size w ((w.alloc (.cells #[.bool s, .slice (some ⟨b, 0, none⟩) l (l + 2)] 26)).alloc (.cells #[.bool s, .slice a l c] 26)) := below_alloc' (below_alloc _ _) _
  have x := (zb_new w s (some ⟨b, 0, none⟩) l (l + 2)).below (below_alloc _ (.cells #[.bool s, .slice a l c] 26))
  have x2 := zb_new (w.alloc (.cells #[.bool s, .slice (some ⟨b, 0, none⟩) l (l + 2)] 26)) s a l c
  rw [show (w.alloc (.cells #[.bool s, .slice (some ⟨b, 0, none⟩) l (l + 2)] 26)).heap.size = w.heap.size + 1 from by simp] at x2
  have h1 := h.below b0
  have hr1 : Row ((w.alloc (.cells #[.bool s, .slice (some ⟨b, 0, none⟩) l (l + 2)] 26)).alloc (.cells #[.bool s, .slice a l c] 26)) b (xs ++ [77, 78]) := (b0.block b hlt).trans hr
  go_enter Tryz.func9, Tryz.ntmps9
  generalize hp : w.heap.size = p at *
  have u0 := x.c0
  have u1 := x.c1
  have v0 := x2.c0
  have v1 := x2.c1
  go_wp2_with fail
  generalize (w.alloc (.cells #[.bool s, .slice (some ⟨b, 0, none⟩) l (l + 2)] 26)).alloc (.cells #[.bool s, .slice a l c] 26) = wb at *
  clear u0 u1 v0 v1
  go_loopw [5] (fun i wr => ∃ k : Nat, k ≤ l ∧ i = .int .i64 k ∧ Below wb.heap.size wb wr) (fun i _ => l - (intOf i).toNat)
  case atStart => exact ⟨0, Nat.zero_le _, rfl, Below.refl _ _⟩
  case round =>
    obtain ⟨k, hk, rfl, kr⟩ := hrel
    have u1 := (x.below kr).c1
    have v1 := (x2.below kr).c1
    have rowr : Row wr b (xs ++ [77, 78]) := (kr.block b (Fresh.row_lt hr1)).trans hr1
    by_cases hkN : k < l
    · obtain ⟨_, _, hcb, _, ⟨_, h6, _⟩ | ⟨a0, rfl, h5⟩⟩ := h1.below kr
      · omega
      rcases h5 with h5 | ⟨bb, off, rfl, _, hc⟩
      · omega
      have ca := rowr.cell (i := k) (by simp [hxl]; omega)
      rw [show lz (xs ++ [77, 78]) k = lz xs k by simp [lz, List.getD, List.getElem?_append_left (show k < xs.length by omega)]] at ca
      have cb := hc k hkN
      have hkb : (k : Int) < l := by omega
      have hk0 : (0 : Int) ≤ k := by omega
      generalize lz xs k = zk at *
      clear hc
      go_wp2_with fail
      go_quiet (fail)
      go_wp2_with fail
      exact ⟨⟨k + 1, by omega, by go_num, kr.trans (Go.Proofs.YtgkacepahfjeeaaGreatDoor.below_drewN _ _ _)⟩, by simp [intOf]; omega⟩
    · obtain rfl : k = l := by omega
      have c7 := rowr.cell (i := k) (by simp [hxl])
      have c8 := rowr.cell (i := k + 1) (by simp [hxl])
      rw [show lz (xs ++ [77, 78]) k = 77 by simp [lz, List.getD, ← hxl]] at c7
      rw [show lz (xs ++ [77, 78]) (k + 1) = 78 by simp [lz, List.getD, ← hxl]] at c8
      go_wp2_with fail
      go_ret
      exact ⟨rfl, b0.trans (kr.mono (hp ▸ b0.size))⟩
end Go.Proofs.YtgkacepahfjeeaaGreatDoor
