/-
 Several texts in one: R2, R4.
-/
import Derived.Test.YtndhjoofbkgkiaaDoorP09
import Derived.Test.YtndhjoofbkgkiaaDoorP06
namespace Go.Proofs.YtndhjoofbkgkiaaDoor
open Go.RowKit

/-- the list that is lent: the limbs, and four marks behind them -/
def Lent (w : World) (f g n : Nat) (xs F : List Int) : Prop := Row w f F ∧ Row w g F ∧ F.length = n + 4 ∧ Limbs F ∧ F.take n = xs ∧ n ≤ 1099511627776

theorem Row.trans' {w : World} {b : Nat} {xs : List Int} (h : Row w b xs) {w' : World} (e : w'.heap[b]? = w.heap[b]?) : Row w' b xs := e.trans h

theorem take_set_past (zs : List Int) (n k : Nat) (x : Int) (h : n ≤ k) : (zs.set k x).take n = zs.take n := by
 apply List.ext_getElem?
 intro i
 simp only [List.getElem?_take, List.getElem?_set]
 split
 ·rw [if_neg (by omega)]
 ·rfl

theorem copy_all {F : List Int} {n : Nat} (h : F.length = n) : F.take (min n n) ++ (List.replicate n (0 : Int)).drop (min n n) = F := by
 rw [Nat.min_self, List.drop_eq_nil_of_le (by simp), List.append_nil, List.take_of_length_le (by omega)]

set_option maxRecDepth 100000 in
set_option maxHeartbeats 1600000 in
theorem lend_any {ad : Option Addr} {len cap : Nat} {xs : List Int} {w : World} (h : Rd w ad len cap xs) (hl : len ≤ 1099511627776) :
  Calls Tryd.prog 7 #[.slice ad len cap] w fun e w' => ∃ f g F, e = .returned (.agg #[.slice (some ⟨f, 0, none⟩) (len + 4) (len + 4), .int .i64 len, .slice (some ⟨g, 0, none⟩) (len + 4) (len + 4)]) ∧ Below w.heap.size w w' ∧ w.heap.size ≤ f ∧ w.heap.size ≤ g ∧ Lent w' f g len xs F := by
 have hxl := h.1
 have hlim := h.2.2.2.1
 have hmk : ∀ u : World, (Instr.makeSlice 22 (.int .i64 ((len : Int) + 4)) (.int .i64 ((len : Int) + 4))).run Tryd.prog u =
   .ok (.slice (some ⟨u.heap.size, 0, none⟩) (len + 4) (len + 4)) (u.alloc (.cells (U (List.replicate (len + 4) 0)) 49)) := run_mk (len + 4) (by omega)
 have r0 := row_alloc (w.alloc (.cells #[.slice none 0 0, .int .i64 0, .slice none 0 0] 24)) (List.replicate (len + 4) 0)
 rw [show (w.alloc (.cells #[.slice none 0 0, .int .i64 0, .slice none 0 0] 24)).heap.size = w.heap.size + 1 from by simp] at r0
 have r1 := rd_alloc (rd_alloc h (.cells #[.slice none 0 0, .int .i64 0, .slice none 0 0] 24)) (.cells (U (List.replicate (len + 4) 0)) 49)
 obtain ⟨v', w1, hrun, ⟨kk, rfl⟩, hr, ho⟩ := run_copy_rd (dLen := len + 4) (dCap := len + 4) r0 r1 (by rw [List.length_replicate]; exact Nat.le_refl _) 3
 have hb1 : Below w.heap.size w w1 := (((Below.refl _ _).alloc (Nat.le_refl _) _).alloc (by simp) _).trans (ho.below (by omega))
 have hs1 : w1.heap.size = w.heap.size + 2 := by rw [ho.size]; simp
 have hc1 : w1.heap[w.heap.size]? = some (.cells #[.slice none 0 0, .int .i64 0, .slice none 0 0] 24 (0, 0)) := by
  rw [ho.block _ (by omega), Below.heap_alloc _ _ _ (by simp)]
  exact heap_alloc_new w _
 have HR : Hid (Row w1 (w.heap.size + 1) (xs ++ List.replicate 4 0)) := by
  show Row _ _ _
  rw [Nat.min_eq_left (by omega), List.take_of_length_le (by omega), List.drop_replicate] at hr
  rwa [show len + 4 - len = 4 from by omega] at hr
 clear hr ho r0 r1
 go_enter Tryd.func7, Tryd.ntmps7
 go_wp2
 clear hrun
 go_loopw [4] (fun i wr => ∃ (k : Nat) (zs : List Int), len ≤ k ∧ k ≤ len + 4 ∧ i = .int .i64 k ∧ zs.length = len + 4 ∧ Hid (zs.take len = xs) ∧ Limbs zs ∧ Row wr (w.heap.size + 1) zs ∧ Only (w.heap.size + 1) w1 wr) (fun i _ => len + 4 - (intOf i).toNat)
 case atStart => exact ⟨len, _, Nat.le_refl _, by omega, rfl, by rw [List.length_append, hxl]; rfl, (by show _ = _; rw [← hxl, List.take_left]), hlim.append (Limbs.replicate _), HR.out, Only.refl _ _⟩
 case round =>
  obtain ⟨k, zs, hk0, hk1, rfl, hzl, htk, hzL, hrow, hon⟩ := hrel
  have hcell := hrow.cell (i := k)
  have hfr := hrow.frozen k
  by_cases hkN : k < len + 4
  ·replace hcell := hcell (by omega)
   go_wp2
   exact ⟨⟨k + 1, _, by omega, by omega, by go_num, by rw [List.length_set]; exact hzl, (by show _ = _; rw [← htk.out]; exact take_set_past _ _ _ _ hk0), hzL.set k (by omega) (by omega), hrow.set k _, hon.trans (Only.set _ _ _ _)⟩, by simp [intOf]; omega⟩
  ·obtain rfl : k = len + 4 := by omega
   clear hcell hfr
   have hsr : wr.heap.size = w.heap.size + 2 := by rw [hon.size]; exact hs1
   have q0 := row_alloc wr (List.replicate (len + 4) 0)
   have q1 := (hrow.rd hzL (off := 0) (len := len + 4) (cap := len + 4) (by omega) (Nat.le_refl _) (by omega)).below (below_alloc wr (.cells (U (List.replicate (len + 4) 0)) 49))
   rw [List.drop_zero, List.take_of_length_le (by omega)] at q1
   obtain ⟨v', w2, hrun, ⟨k2, rfl⟩, hr2, ho2⟩ := run_copy_rd (dLen := len + 4) (dCap := len + 4) q0 q1 (by rw [List.length_replicate]; exact Nat.le_refl _) 3
   rw [copy_all hzl] at hr2
   rw [hsr] at hrun ho2 hr2
   have hb2 : Below w.heap.size w w2 := ((hb1.trans (hon.below (by omega))).alloc (by omega) _).trans (ho2.below (by omega))
   have hc2 : w2.heap[w.heap.size]? = some (.cells #[.slice none 0 0, .int .i64 0, .slice none 0 0] 24 (0, 0)) := by
    rw [ho2.block _ (by omega), Below.heap_alloc _ _ _ (by omega), hon.block _ (by omega)]; exact hc1
   have hr3 : Row w2 (w.heap.size + 1) zs := hrow.trans' (by rw [ho2.block _ (by omega), Below.heap_alloc _ _ _ (by omega)])
   have z0 : w2.cell? ⟨w.heap.size, 0, none⟩ = some (.slice none 0 0) := cell_of_row w2 w.heap.size 0 _ 24 (0, 0) hc2
   have z1 : w2.cell? ⟨w.heap.size, 1, none⟩ = some (.int .i64 0) := cell_of_row w2 w.heap.size 1 _ 24 (0, 0) hc2
   have z2 : w2.cell? ⟨w.heap.size, 2, none⟩ = some (.slice none 0 0) := cell_of_row w2 w.heap.size 2 _ 24 (0, 0) hc2
   have f0 := frozen_of_row w2 w.heap.size 0 _ 24 hc2
   have f1 := frozen_of_row w2 w.heap.size 1 _ 24 hc2
   have f2 := frozen_of_row w2 w.heap.size 2 _ 24 hc2
   clear q0 q1 hon hrow hb1 hc1 HR ho2
   go_wp2
   have y0 := heap_setCell_same w2 w.heap.size 0 _ 24 (.slice (some ⟨w.heap.size + 1, 0, none⟩) (len + 4) (len + 4)) hc2
   have y1 := heap_setCell_same _ w.heap.size 1 _ 24 (.int .i64 len) y0
   have y2 := heap_setCell_same _ w.heap.size 2 _ 24 (.slice (some ⟨w.heap.size + 2, 0, none⟩) (len + 4) (len + 4)) y1
   refine bodyPost_ret (results_cell_row rfl _ _ w.heap.size 24 _ (0, 0) _ rfl y2 Tryd.underlying24 rfl (by kernel_rfl)) rfl ?_
   refine ⟨w.heap.size + 1, w.heap.size + 2, zs, by simp, ?_, by omega, by omega, ?_, ?_, hzl, hzL, htk.out, hl⟩
   ·exact ((hb2.setCell (Nat.le_refl _) _).setCell (Nat.le_refl _) _).setCell (Nat.le_refl _) _
   ·exact hr3.trans' (by rw [Below.heap_setCell _ _ _ _ (by simp), Below.heap_setCell _ _ _ _ (by simp), Below.heap_setCell _ _ _ _ (by simp)])
   ·exact hr2.trans' (by rw [Below.heap_setCell _ _ _ _ (by simp), Below.heap_setCell _ _ _ _ (by simp), Below.heap_setCell _ _ _ _ (by simp)])


set_option maxRecDepth 100000 in
set_option maxHeartbeats 1600000 in
theorem list_any {f g n : Nat} {w : World} (hn : n ≤ 1099511627776) :
  Calls Tryd.prog 10 #[.agg #[.slice (some ⟨f, 0, none⟩) (n + 4) (n + 4), .int .i64 n, .slice (some ⟨g, 0, none⟩) (n + 4) (n + 4)]] w fun e w' => e = .returned (.slice (some ⟨f, 0, none⟩) n (n + 4)) ∧ Below w.heap.size w w' := by
 go_enter Tryd.func10, Tryd.ntmps10
 go_wp2
 go_ret
 exact ⟨rfl, below_alloc _ _⟩

/-- the worlds differ at one block at most -/
structure Sp (r : Option Nat) (w w' : World) : Prop where
 os : w'.os = w.os
 tape : w'.tape = w.tape
 output : w'.output = w.output
 size : w'.heap.size = w.heap.size
 block : ∀ k, r ≠ some k → w'.heap[k]? = w.heap[k]?

theorem Sp.refl (r : Option Nat) (w : World) : Sp r w w := ⟨rfl, rfl, rfl, rfl, fun _ _ => rfl⟩
theorem Sp.trans {r : Option Nat} {w1 w2 w3 : World} (h : Sp r w1 w2) (k : Sp r w2 w3) : Sp r w1 w3 :=
 ⟨k.os.trans h.os, k.tape.trans h.tape, k.output.trans h.output, k.size.trans h.size, fun i hi => (k.block i hi).trans (h.block i hi)⟩
theorem Sp.drewN (r : Option Nat) (w : World) (n : Nat) : Sp r w (w.drewN n) := ⟨rfl, rfl, rfl, rfl, fun _ _ => rfl⟩
theorem Sp.below {r : Option Nat} {B : Nat} {w w' : World} (h : Sp r w w') (hB : ∀ b, r = some b → B ≤ b) : Below B w w' :=
 ⟨h.os, h.tape, h.output, Nat.le_of_eq h.size.symm, fun k hk => h.block k (fun e => by have := hB k e; omega)⟩
theorem Only.sp {b : Nat} {w w' : World} (h : Only b w w') : Sp (some b) w w' := ⟨h.os, h.tape, h.output, h.size, fun k hk => h.block k (fun e => hk (by rw [e]))⟩

set_option maxRecDepth 100000 in
set_option maxHeartbeats 1600000 in
theorem spoil_row {b n : Nat} {xs : List Int} {w : World} (h : Row w b xs) {len : Nat} (hle : len ≤ n) (hn : xs.length = n) (hb : n ≤ 9223372036854775807) :
  Calls Tryd.prog 41 #[.slice (some ⟨b, 0, none⟩) len n] w fun e w' => e = .returned (.tuple #[]) ∧ Only b w w' := by
 go_enter Tryd.func41, Tryd.ntmps41
 go_wp2
 go_loopw [2] (fun i wr => ∃ (k : Nat) (zs : List Int), k ≤ n ∧ i = .int .i64 k ∧ zs.length = n ∧ Row wr b zs ∧ Only b w wr) (fun i _ => n - (intOf i).toNat)
 case atStart => exact ⟨0, xs, Nat.zero_le _, rfl, hn, h, Only.refl _ _⟩
 case round =>
  obtain ⟨k, zs, hk, rfl, hzl, hrow, hon⟩ := hrel
  have hcell := hrow.cell (i := k)
  have hfr := hrow.frozen k
  by_cases hkN : k < n
  ·replace hcell := hcell (by omega)
   go_wp2
   exact ⟨⟨k + 1, _, by omega, by go_num, by rw [List.length_set]; exact hzl, hrow.set k _, hon.trans (Only.set _ _ _ _)⟩, by simp [intOf]; omega⟩
  ·obtain rfl : k = n := by omega
   go_wp2
   go_end0
   exact ⟨rfl, hon⟩

set_option maxRecDepth 100000 in
set_option maxHeartbeats 1600000 in
theorem spoil_none (w : World) :
  Calls Tryd.prog 41 #[.slice none 0 0] w fun e w' => e = .returned (.tuple #[]) ∧ w = w' := by
 go_enter Tryd.func41, Tryd.ntmps41
 go_wp2
 refine wp_loop_rounds 1 ?_
 rw [rounds_succ]
 go_wp2
 go_end0
 exact ⟨rfl, rfl⟩

theorem spoil_out {w0 w : World} {ad : Option Addr} {len cap : Nat} {zs : List Int} (h : Out w0 w ad len cap zs) :
  Calls Tryd.prog 41 #[.slice ad len cap] w fun e w' => e = .returned (.tuple #[]) ∧ Sp (blk ad) w w' := by
 obtain ⟨_, ⟨rfl, rfl, rfl, rfl⟩ | ⟨b, xs, rfl, hb, hr, hl, hn, hle, hm, rfl⟩⟩ := h
 ·exact (spoil_none w).mono (by rintro e w' ⟨rfl, rfl⟩; exact ⟨rfl, Sp.refl _ _⟩)
 ·exact (spoil_row hr hle hn hm).mono (by rintro e w' ⟨rfl, ho⟩; exact ⟨rfl, ho.sp⟩)

/-- a list of loans at block r, none of whose blocks is the block o -/
def Loans (w : World) (o : Option Nat) (r m : Nat) : Prop := o ≠ some r ∧ ∀ i, i < m → ∃ f g n F, o ≠ some f ∧ o ≠ some g ∧ w.cell? ⟨r, i * 3, none⟩ = some (.slice (some ⟨f, 0, none⟩) (n + 4) (n + 4)) ∧ w.cell? ⟨r, i * 3 + 2, none⟩ = some (.slice (some ⟨g, 0, none⟩) (n + 4) (n + 4)) ∧ Row w f F ∧ Row w g F ∧ F.length = n + 4 ∧ Limbs F ∧ n ≤ 1099511627776

theorem Sp.row {o : Option Nat} {w w' : World} (h : Sp o w w') {b : Nat} {xs : List Int} (hr : Row w b xs) (hb : o ≠ some b) : Row w' b xs := hr.trans' (h.block b hb)
theorem Sp.cell {o : Option Nat} {w w' : World} (h : Sp o w w') {b i : Nat} (hb : o ≠ some b) : w'.cell? ⟨b, i, none⟩ = w.cell? ⟨b, i, none⟩ := World.cell?_of_block (w := w) (h.block b hb)

theorem Rd.drewN {w : World} {ad : Option Addr} {len cap : Nat} {zs : List Int} (h : Rd w ad len cap zs) (n : Nat) : Rd (w.drewN n) ad len cap zs := h.below (below_drewN _ w n)
theorem same_quiet {a1 a2 : Option Addr} {l1 c1 l2 c2 : Nat} {xs : List Int} {w : World} (h1 : Rd w a1 l1 c1 xs) (h2 : Rd w a2 l2 c2 xs) :
  Calls Tryd.prog 40 #[.slice a1 l1 c1, .slice a2 l2 c2] w fun e w' => e = .returned (.bool true) ∧ ∃ n, w' = w.drewN n :=
 (same_any h1 h2).mono (by rintro e w' ⟨rfl, h⟩; exact ⟨by rw [decide_eq_true rfl], h⟩)

set_option maxRecDepth 100000 in
set_option maxHeartbeats 1600000 in
theorem is_any {w0 w : World} {a1 a2 : Option Addr} {l1 c1 l2 c2 : Nat} {zs : List Int} {r m : Nat} (h1 : Out w0 w a1 l1 c1 zs) (h2 : Rd w a2 l2 c2 zs) (hL : Loans w (blk a1) r m) (hm : m ≤ 2) :
  Calls Tryd.prog 11 #[.slice a1 l1 c1, .slice a2 l2 c2, .slice (some ⟨r, 0, none⟩) m m] w fun e w' => e = .returned (.bool true) ∧ Sp (blk a1) w w' := by
 go_enter Tryd.func11, Tryd.ntmps11
 go_wp2_with fail
 refine (same_any h1.rd h2).mono ?_
 rintro e w1 ⟨rfl, n1, rfl⟩
 rw [show decide (zs = zs) = true from decide_eq_true rfl]
 go_wp2_with fail
 have o1 : Out w0 (w.drewN n1) a1 l1 c1 zs := h1.keep (h1.1.trans ((below_drewN _ w n1).mono h1.1.size)) (fun _ _ => rfl)
 refine (spoil_out o1).mono ?_
 rintro e w2 ⟨rfl, s2⟩
 replace s2 := (Sp.drewN _ w n1).trans s2
 clear o1
 go_wp2_with fail
 go_loopw [7, 8] (fun b i wr => ∃ (k : Nat), k ≤ m ∧ i = .int .i64 k ∧ b = .bool true ∧ Sp (blk a1) w wr) (fun _ i _ => m - (intOf i).toNat)
 case atStart => exact ⟨0, Nat.zero_le _, rfl, rfl, s2⟩
 case round =>
  obtain ⟨k, hk, rfl, rfl, hs⟩ := hrel
  by_cases hkm : k < m
  ·obtain ⟨f, g, n, F, d1, d2, p1, p2, r1, r2, hF, hFL, hn⟩ := hL.2 k hkm
   replace p1 := (hs.cell hL.1).trans p1
   replace p2 := (hs.cell hL.1).trans p2
   replace r1 := hs.row r1 d1
   replace r2 := hs.row r2 d2
   have e1 := r1.rd hFL (off := 0) (len := n + 4) (cap := n + 4) (by omega) (Nat.le_refl _) (by omega)
   have e2 := r2.rd hFL (off := 0) (len := n + 4) (cap := n + 4) (by omega) (Nat.le_refl _) (by omega)
   go_wp2_with fail
   go_quiet ((go_at_call 40; exact Calls.quiet_of (same_quiet (e1.drewN _) (e2.drewN _))))
   go_wp2_with fail
   go_roundw
   case rel => exact ⟨k + 1, by omega, by go_num, rfl, hs.trans (Sp.drewN _ _ _)⟩
   case measure => simp [intOf]; omega
  ·obtain rfl : k = m := by omega
   go_wp2_with fail
   go_ret
   exact ⟨rfl, hs⟩
end Go.Proofs.YtndhjoofbkgkiaaDoor

namespace Go.Proofs.YtndhjoofbkgkiaaDoor
open Go.RowKit

theorem Lent.below {w w' : World} {f g n : Nat} {xs F : List Int} (h : Lent w f g n xs F) (hb : Below w.heap.size w w') : Lent w' f g n xs F :=
 ⟨h.1.below hb, h.2.1.below hb, h.2.2⟩

/-- what is handed in: the list that is lent -/
theorem Lent.rd {w : World} {f g n : Nat} {xs F : List Int} (h : Lent w f g n xs F) : Rd w (some ⟨f, 0, none⟩) n (n + 4) xs := by
 obtain ⟨h1, _, h3, h4, h5, h6⟩ := h
 have := h1.rd h4 (off := 0) (len := n) (cap := n + 4) (by omega) (by omega) (by omega)
 rw [List.drop_zero, h5] at this
 exact this

/-- the variable of a loan -/
structure Box (w : World) (b f g n : Nat) (xs F : List Int) : Prop where
 c0 : w.cell? ⟨b, 0, none⟩ = some (.slice (some ⟨f, 0, none⟩) (n + 4) (n + 4))
 c1 : w.cell? ⟨b, 1, none⟩ = some (.int .i64 n)
 c2 : w.cell? ⟨b, 2, none⟩ = some (.slice (some ⟨g, 0, none⟩) (n + 4) (n + 4))
 lt : b < w.heap.size
 lent : Lent w f g n xs F

theorem Box.below {w w' : World} {b f g n : Nat} {xs F : List Int} (h : Box w b f g n xs F) (hb : Below w.heap.size w w') : Box w' b f g n xs F :=
 ⟨(hb.cell (p := ⟨b, 0, none⟩) h.lt).trans h.c0, (hb.cell (p := ⟨b, 1, none⟩) h.lt).trans h.c1, (hb.cell (p := ⟨b, 2, none⟩) h.lt).trans h.c2, Nat.lt_of_lt_of_le h.lt hb.size, h.lent.below hb⟩

theorem box_new {w : World} {f g n : Nat} {xs F : List Int} (h : Lent w f g n xs F) :
  Box (w.alloc (.cells #[.slice (some ⟨f, 0, none⟩) (n + 4) (n + 4), .int .i64 n, .slice (some ⟨g, 0, none⟩) (n + 4) (n + 4)] 24)) w.heap.size f g n xs F := by
 have hg := heap_alloc_new w (.cells #[.slice (some ⟨f, 0, none⟩) (n + 4) (n + 4), .int .i64 n, .slice (some ⟨g, 0, none⟩) (n + 4) (n + 4)] 24)
 exact ⟨cell_of_row _ w.heap.size 0 _ _ (0, 0) hg, cell_of_row _ w.heap.size 1 _ _ (0, 0) hg, cell_of_row _ w.heap.size 2 _ _ (0, 0) hg, by simp, h.below (below_alloc w _)⟩

theorem kept_sp {w0 w1 w2 : World} {r : Option Nat} (h : Kept w0 w1) (k : Sp r w1 w2) (hr : ∀ b, r = some b → w0.heap.size ≤ b) : Kept w0 w2 := Below.trans h (k.below hr)

theorem ne_before {wp w1 w : World} {a : Option Addr} {l c : Nat} {zs : List Int} {o : Obj} (h : Out wp w1 a l c zs) (k : Below (w.alloc o).heap.size (w.alloc o) wp) : blk a ≠ some w.heap.size := fun e => by
 have h1 := (h.lt e).1
 have h2 := k.size
 simp at h2
 omega

theorem ne_after {wp w1 w : World} {a : Option Addr} {l c : Nat} {zs : List Int} (h : Out wp w1 a l c zs) (k : Below w1.heap.size w1 w) : blk a ≠ some w.heap.size := fun e => by
 have h1 := (h.lt e).2
 have h2 := k.size
 omega

theorem Out.ne_old {w0 wp w1 : World} {a : Option Addr} {l c b : Nat} {zs : List Int} (h : Out wp w1 a l c zs) (k : Kept w0 wp) (hb : b < w0.heap.size) : blk a ≠ some b := fun e => by
 have h1 := (h.lt e).1
 have h2 := Below.size k
 omega

theorem Lent.lt1 {w : World} {f g n : Nat} {xs F : List Int} (h : Lent w f g n xs F) : f < w.heap.size := h.1.lt
theorem Lent.lt2 {w : World} {f g n : Nat} {xs F : List Int} (h : Lent w f g n xs F) : g < w.heap.size := h.2.1.lt

/-- a list of two loans, made at w -/
theorem loans2 {w0 w wc wp w1 : World} {a : Option Addr} {l c f1 g1 n1 f2 g2 n2 r b1 b2 : Nat} {zs X1 F1 X2 F2 : List Int} (x : Box w0 b1 f1 g1 n1 X1 F1) (y : Box w0 b2 f2 g2 n2 X2 F2) (h : Out wp w1 a l c zs) (kp : Kept w0 wp) (kc : Kept w0 wc)
  (hr : r = w.heap.size) (hd : Below w1.heap.size w1 w ∨ Below (w.alloc (.cells #[.slice (some ⟨f1, 0, none⟩) (n1 + 4) (n1 + 4), .int .i64 n1, .slice (some ⟨g1, 0, none⟩) (n1 + 4) (n1 + 4), .slice (some ⟨f2, 0, none⟩) (n2 + 4) (n2 + 4), .int .i64 n2, .slice (some ⟨g2, 0, none⟩) (n2 + 4) (n2 + 4)] 24)).heap.size (w.alloc (.cells #[.slice (some ⟨f1, 0, none⟩) (n1 + 4) (n1 + 4), .int .i64 n1, .slice (some ⟨g1, 0, none⟩) (n1 + 4) (n1 + 4), .slice (some ⟨f2, 0, none⟩) (n2 + 4) (n2 + 4), .int .i64 n2, .slice (some ⟨g2, 0, none⟩) (n2 + 4) (n2 + 4)] 24)) wp)
  (k : Below (w.alloc (.cells #[.slice (some ⟨f1, 0, none⟩) (n1 + 4) (n1 + 4), .int .i64 n1, .slice (some ⟨g1, 0, none⟩) (n1 + 4) (n1 + 4), .slice (some ⟨f2, 0, none⟩) (n2 + 4) (n2 + 4), .int .i64 n2, .slice (some ⟨g2, 0, none⟩) (n2 + 4) (n2 + 4)] 24)).heap.size (w.alloc (.cells #[.slice (some ⟨f1, 0, none⟩) (n1 + 4) (n1 + 4), .int .i64 n1, .slice (some ⟨g1, 0, none⟩) (n1 + 4) (n1 + 4), .slice (some ⟨f2, 0, none⟩) (n2 + 4) (n2 + 4), .int .i64 n2, .slice (some ⟨g2, 0, none⟩) (n2 + 4) (n2 + 4)] 24)) wc) :
  Loans wc (blk a) r 2 := by
 subst hr
 have hne : blk a ≠ some w.heap.size := hd.elim (fun k => ne_after h k) (fun k => ne_before h k)
 have hg := heap_alloc_new w (.cells #[.slice (some ⟨f1, 0, none⟩) (n1 + 4) (n1 + 4), .int .i64 n1, .slice (some ⟨g1, 0, none⟩) (n1 + 4) (n1 + 4), .slice (some ⟨f2, 0, none⟩) (n2 + 4) (n2 + 4), .int .i64 n2, .slice (some ⟨g2, 0, none⟩) (n2 + 4) (n2 + 4)] 24)
 have hc := (k.block w.heap.size (by simp)).trans hg
 refine ⟨hne, fun i hi => ?_⟩
 have hi2 : i = 0 ∨ i = 1 := by omega
 rcases hi2 with rfl | rfl
 ·have L := (x.below kc).lent
  exact ⟨f1, g1, n1, F1, h.ne_old kp x.lent.lt1, h.ne_old kp x.lent.lt2, cell_of_row _ w.heap.size 0 _ _ (0, 0) hc, cell_of_row _ w.heap.size 2 _ _ (0, 0) hc, L.1, L.2.1, L.2.2.1, L.2.2.2.1, L.2.2.2.2.2⟩
 ·have L := (y.below kc).lent
  exact ⟨f2, g2, n2, F2, h.ne_old kp y.lent.lt1, h.ne_old kp y.lent.lt2, cell_of_row _ w.heap.size 3 _ _ (0, 0) hc, cell_of_row _ w.heap.size 5 _ _ (0, 0) hc, L.1, L.2.1, L.2.2.1, L.2.2.2.1, L.2.2.2.2.2⟩

/-- .. of one loan -/
theorem loans1 {w0 w wc wp w1 : World} {a : Option Addr} {l c f1 g1 n1 r b1 : Nat} {zs X1 F1 : List Int} (x : Box w0 b1 f1 g1 n1 X1 F1) (h : Out wp w1 a l c zs) (kp : Kept w0 wp) (kc : Kept w0 wc)
  (hr : r = w.heap.size) (hd : Below w1.heap.size w1 w ∨ Below (w.alloc (.cells #[.slice (some ⟨f1, 0, none⟩) (n1 + 4) (n1 + 4), .int .i64 n1, .slice (some ⟨g1, 0, none⟩) (n1 + 4) (n1 + 4)] 24)).heap.size (w.alloc (.cells #[.slice (some ⟨f1, 0, none⟩) (n1 + 4) (n1 + 4), .int .i64 n1, .slice (some ⟨g1, 0, none⟩) (n1 + 4) (n1 + 4)] 24)) wp)
  (k : Below (w.alloc (.cells #[.slice (some ⟨f1, 0, none⟩) (n1 + 4) (n1 + 4), .int .i64 n1, .slice (some ⟨g1, 0, none⟩) (n1 + 4) (n1 + 4)] 24)).heap.size (w.alloc (.cells #[.slice (some ⟨f1, 0, none⟩) (n1 + 4) (n1 + 4), .int .i64 n1, .slice (some ⟨g1, 0, none⟩) (n1 + 4) (n1 + 4)] 24)) wc) :
  Loans wc (blk a) r 1 := by
 subst hr
 have hne : blk a ≠ some w.heap.size := hd.elim (fun k => ne_after h k) (fun k => ne_before h k)
 have hg := heap_alloc_new w (.cells #[.slice (some ⟨f1, 0, none⟩) (n1 + 4) (n1 + 4), .int .i64 n1, .slice (some ⟨g1, 0, none⟩) (n1 + 4) (n1 + 4)] 24)
 have hc := (k.block w.heap.size (by simp)).trans hg
 refine ⟨hne, fun i hi => ?_⟩
 obtain rfl : i = 0 := by omega
 have L := (x.below kc).lent
 exact ⟨f1, g1, n1, F1, h.ne_old kp x.lent.lt1, h.ne_old kp x.lent.lt2, cell_of_row _ w.heap.size 0 _ _ (0, 0) hc, cell_of_row _ w.heap.size 2 _ _ (0, 0) hc, L.1, L.2.1, L.2.2.1, L.2.2.2.1, L.2.2.2.2.2⟩

theorem known_S {w0 w : World} (htab : Tab w0) (k : Kept w0 w) : Calls Tryd.prog 16 #[] w fun e w' => e = .returned (.bool true) ∧ Below w.heap.size w w' := known_any w (htab.below k)

/-- 'is' of two answers of one number -/
theorem is_two {w0 wc wp w1 vp v1 : World} {a a2 : Option Addr} {l c l2 c2 r m : Nat} {zs z2 : List Int} {n : Int} (h : Out wp w1 a l c zs) (hz : Canon zs) (hv : val zs = n) (k : Below w1.heap.size w1 wc) (h2 : Out vp v1 a2 l2 c2 z2) (hz2 : Canon z2) (hv2 : val z2 = n) (k2 : Below v1.heap.size v1 wc)
  (kp : Kept w0 wp) (kc : Kept w0 wc) (hL : Loans wc (blk a) r m) (hm : m ≤ 2) :
  Calls Tryd.prog 11 #[.slice a l c, .slice a2 l2 c2, .slice (some ⟨r, 0, none⟩) m m] wc fun e w' => e = .returned (.bool true) ∧ Kept w0 w' := by
 obtain rfl : zs = z2 := canon_inj hz hz2 (by rw [hv, hv2])
 refine (is_any (h.later k) (h2.later k2).rd hL hm).mono ?_
 rintro e w' ⟨rfl, hs⟩
 exact ⟨rfl, kept_sp kc hs (fun b hb => by have := (h.lt hb).1; have := Below.size kp; omega)⟩

/-- the two boxes as a region reads them, and what is kept -/
theorem mk_S {w0 w : World} {p q f1 g1 n1 f2 g2 n2 : Nat} {X1 F1 X2 F2 : List Int} (x : Box w0 p f1 g1 n1 X1 F1) (y : Box w0 q f2 g2 n2 X2 F2) (k : Kept w0 w) :
  w.cell? ⟨p, 0, none⟩ = some (.slice (some ⟨f1, 0, none⟩) (n1 + 4) (n1 + 4)) ∧ w.cell? ⟨p, 1, none⟩ = some (.int .i64 n1) ∧ w.cell? ⟨p, 2, none⟩ = some (.slice (some ⟨g1, 0, none⟩) (n1 + 4) (n1 + 4)) ∧
  w.cell? ⟨q, 0, none⟩ = some (.slice (some ⟨f2, 0, none⟩) (n2 + 4) (n2 + 4)) ∧ w.cell? ⟨q, 1, none⟩ = some (.int .i64 n2) ∧ w.cell? ⟨q, 2, none⟩ = some (.slice (some ⟨g2, 0, none⟩) (n2 + 4) (n2 + 4)) ∧ Kept w0 w :=
 ⟨(x.below k).c0, (x.below k).c1, (x.below k).c2, (y.below k).c0, (y.below k).c1, (y.below k).c2, k⟩

theorem sub_S {w0 w : World} {p q f1 g1 n1 f2 g2 n2 : Nat} {X1 F1 X2 F2 : List Int} (x : Box w0 p f1 g1 n1 X1 F1) (y : Box w0 q f2 g2 n2 X2 F2) (k : Kept w0 w) (hge : val X2 ≤ val X1) :
  Calls Tryd.prog 9 #[.slice (some ⟨f1, 0, none⟩) n1 (n1 + 4), .slice (some ⟨f2, 0, none⟩) n2 (n2 + 4)] w fun e w' => ∃ ad len cap zs, e = .returned (.tuple #[.slice ad len cap, .int .i64 0]) ∧ Out w w' ad len cap zs ∧ Canon zs ∧ val zs = val X1 - val X2 ∧ Below w.heap.size w w' := by
 refine (sub_any (x.below k).lent.rd (y.below k).lent.rd x.lent.2.2.2.2.2 hge).mono ?_
 rintro e w' ⟨ad, len, cap, zs, rfl, ho, hc, hv, hl⟩
 exact ⟨ad, len, cap, zs, rfl, ho, hc, hv, ho.1⟩

theorem sub_Sneg {w0 w : World} {p q f1 g1 n1 f2 g2 n2 : Nat} {X1 F1 X2 F2 : List Int} (x : Box w0 p f1 g1 n1 X1 F1) (y : Box w0 q f2 g2 n2 X2 F2) (k : Kept w0 w) (hlt : val X1 < val X2) :
  Calls Tryd.prog 9 #[.slice (some ⟨f1, 0, none⟩) n1 (n1 + 4), .slice (some ⟨f2, 0, none⟩) n2 (n2 + 4)] w fun e w' => e = .returned (.tuple #[.slice none 0 0, .int .i64 10]) ∧ Below w.heap.size w w' := by
 refine (sub_neg (x.below k).lent.rd (y.below k).lent.rd hlt).mono ?_
 rintro e w' ⟨rfl, q, rfl⟩
 exact ⟨rfl, below_drewN _ _ _⟩

/-- both in one: what comes of the difference hangs on the order c -/
theorem sub_SS {w0 : World} {p q f1 g1 n1 f2 g2 n2 : Nat} {X1 F1 X2 F2 : List Int} (x : Box w0 p f1 g1 n1 X1 F1) (y : Box w0 q f2 g2 n2 X2 F2) :
  ∀ w, Kept w0 w → Calls Tryd.prog 9 #[.slice (some ⟨f1, 0, none⟩) n1 (n1 + 4), .slice (some ⟨f2, 0, none⟩) n2 (n2 + 4)] w fun e w' => ∃ (ad : Option Addr) (len cap : Nat) (er : Int), e = .returned (.tuple #[.slice ad len cap, .int .i64 er]) ∧
   Hid ((cmpI (val X1) (val X2) < 0 ∧ er = 10 ∧ len = 0) ∨ (0 ≤ cmpI (val X1) (val X2) ∧ er = 0 ∧ ∃ zs, Out w w' ad len cap zs ∧ Canon zs ∧ val zs = val X1 - val X2)) ∧ Below w.heap.size w w' := by
 intro w k
 by_cases h : val X1 < val X2
 ·refine (sub_Sneg x y k h).mono ?_
  rintro e w' ⟨rfl, hb⟩
  exact ⟨none, 0, 0, 10, rfl, hide (Or.inl ⟨by rw [cmpI_lt h]; decide, rfl, rfl⟩), hb⟩
 ·refine (sub_S x y k (by omega)).mono ?_
  rintro e w' ⟨ad, len, cap, zs, rfl, ho, hc, hv, hb⟩
  refine ⟨ad, len, cap, 0, rfl, hide (Or.inr ⟨?_, rfl, zs, ho, hc, hv⟩), hb⟩
  unfold cmpI
  rw [if_neg h]
  split <;> decide

theorem cmp_ge {a b c : Int} (h : cmpI a b = c) (hc : 0 ≤ c) : b ≤ a := by
 unfold cmpI at h
 split at h <;> omega

theorem add_S {w0 w : World} {p q f1 g1 n1 f2 g2 n2 : Nat} {X1 F1 X2 F2 : List Int} (x : Box w0 p f1 g1 n1 X1 F1) (y : Box w0 q f2 g2 n2 X2 F2) (k : Kept w0 w) :
  Calls Tryd.prog 14 #[.slice (some ⟨f1, 0, none⟩) n1 (n1 + 4), .slice (some ⟨f2, 0, none⟩) n2 (n2 + 4)] w fun e w' => ∃ ad len cap zs, e = .returned (.slice ad len cap) ∧ Out w w' ad len cap zs ∧ Canon zs ∧ val zs = val X1 + val X2 ∧ Below w.heap.size w w' := by
 refine (add_any (x.below k).lent.rd (y.below k).lent.rd x.lent.2.2.2.2.2 y.lent.2.2.2.2.2).mono ?_
 rintro e w' ⟨ad, len, cap, zs, rfl, ho, hc, hv, hl⟩
 exact ⟨ad, len, cap, zs, rfl, ho, hc, hv, ho.1⟩

theorem cmp_S {w0 w : World} {p q f1 g1 n1 f2 g2 n2 : Nat} {X1 F1 X2 F2 : List Int} {c : Int} (x : Box w0 p f1 g1 n1 X1 F1) (y : Box w0 q f2 g2 n2 X2 F2) (k : Kept w0 w) (hc : cmpI (val X1) (val X2) = c) :
  Calls Tryd.prog 13 #[.slice (some ⟨f1, 0, none⟩) n1 (n1 + 4), .slice (some ⟨f2, 0, none⟩) n2 (n2 + 4)] w fun e w' => e = .returned (.int .i64 c) ∧ Below w.heap.size w w' := by
 subst hc
 refine (cmp_any (x.below k).lent.rd (y.below k).lent.rd).mono ?_
 rintro e w' ⟨rfl, q, rfl⟩
 exact ⟨rfl, below_drewN _ _ _⟩

theorem refadd_S {w0 w : World} {a1 a2 : Option Addr} {l1 c1 l2 c2 : Nat} {xs ys : List Int} (h1 : Rd w0 a1 l1 c1 xs) (h2 : Rd w0 a2 l2 c2 ys) (hl1 : l1 ≤ 1048576) (hl2 : l2 ≤ 1048576) (k : Kept w0 w) :
  Calls Tryd.prog 15 #[.slice a1 l1 c1, .slice a2 l2 c2] w fun e w' => ∃ ad len cap zs, e = .returned (.slice ad len cap) ∧ Out w w' ad len cap zs ∧ Canon zs ∧ val zs = val xs + val ys ∧ Below w.heap.size w w' := by
 refine (refadd_any (h1.below k) (h2.below k) (by omega) (by omega)).mono ?_
 rintro e w' ⟨ad, len, cap, zs, rfl, ho, hc, hv, hl⟩
 exact ⟨ad, len, cap, zs, rfl, ho, hc, hv, ho.1⟩

theorem refsub_S {w0 w : World} {a1 a2 : Option Addr} {l1 c1 l2 c2 : Nat} {xs ys : List Int} (h1 : Rd w0 a1 l1 c1 xs) (h2 : Rd w0 a2 l2 c2 ys) (hl1 : l1 ≤ 1048576) (hge : val ys ≤ val xs) (k : Kept w0 w) :
  Calls Tryd.prog 12 #[.slice a1 l1 c1, .slice a2 l2 c2] w fun e w' => ∃ ad len cap zs, e = .returned (.slice ad len cap) ∧ Out w w' ad len cap zs ∧ Canon zs ∧ val zs = val xs - val ys ∧ Below w.heap.size w w' := by
 refine (refsub_any (h1.below k) (h2.below k) (by omega) hge).mono ?_
 rintro e w' ⟨ad, len, cap, zs, rfl, ho, hc, hv, hl⟩
 exact ⟨ad, len, cap, zs, rfl, ho, hc, hv, ho.1⟩

end Go.Proofs.YtndhjoofbkgkiaaDoor
