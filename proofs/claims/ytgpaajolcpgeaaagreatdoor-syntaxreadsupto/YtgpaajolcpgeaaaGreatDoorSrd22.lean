/-
 Several texts in one: O4, O5, O6, I2.
-/
import Derived.Test.YtgpaajolcpgeaaaGreatDoorSrd21
import Derived.Test.YtgpaajolcpgeaaaGreatDoorSrd17
namespace Go.Proofs.YtgpaajolcpgeaaaGreatDoor
open Go.RowKit
namespace Sx

/-- what stands at every node -/
def Al (P : Lab → Prop) (t : Tr) : Prop := ∀ n u, At4 n t u → P (lbO u)
theorem Al.kid {P : Lab → Prop} {t k : Tr} (h : Al P t) (hk : k ∈ ksO t) : Al P k := fun n u hu => h (n + 1) u ⟨k, hk, hu⟩
theorem Al.self {P : Lab → Prop} {t : Tr} (h : Al P t) : P (lbO t) := h 0 t rfl
/-- a label that is no greater than what a machine bears -/
structure Bd4 (l : Lab) : Prop where
 xs : l.xs.length ≤ 1073741824
 nm : l.nm.size ≤ 1073741824
 nn : l.nms.length ≤ 1073741824
 ns : ∀ n ∈ l.nms, n.size ≤ 1073741824
/-- a shape's block -/
def ShB (w : World) (b : Nat) (s : Shp) : Prop := w.heap[b]? = some (.cells #[.int .i64 s.is, .int .i64 s.kids, .int .i64 s.few, .int .i64 s.many, .bool s.number, .bool s.name, .bool s.names] 76 (0, 0))
theorem ShB.lt {w : World} {b : Nat} {s : Shp} (h : ShB w b s) : b < w.heap.size := lt_of_block h
theorem ShB.below {w w' : World} {b : Nat} {s : Shp} (h : ShB w b s) (k : Below w.heap.size w w') : ShB w' b s := (k.block b h.lt).trans h
theorem shb_new (w : World) (s : Shp) : ShB (w.alloc (.cells #[.int .i64 s.is, .int .i64 s.kids, .int .i64 s.few, .int .i64 s.many, .bool s.number, .bool s.name, .bool s.names] 76)) w.heap.size s := heap_alloc_new w _
theorem ShB.c0 {w : World} {b : Nat} {s : Shp} (h : ShB w b s) : w.cell? ⟨b, 0, none⟩ = some (.int .i64 s.is) := cell_of_row w b 0 _ _ (0, 0) h
theorem ShB.c1 {w : World} {b : Nat} {s : Shp} (h : ShB w b s) : w.cell? ⟨b, 1, none⟩ = some (.int .i64 s.kids) := cell_of_row w b 1 _ _ (0, 0) h
theorem ShB.c2 {w : World} {b : Nat} {s : Shp} (h : ShB w b s) : w.cell? ⟨b, 2, none⟩ = some (.int .i64 s.few) := cell_of_row w b 2 _ _ (0, 0) h
theorem ShB.c3 {w : World} {b : Nat} {s : Shp} (h : ShB w b s) : w.cell? ⟨b, 3, none⟩ = some (.int .i64 s.many) := cell_of_row w b 3 _ _ (0, 0) h
theorem ShB.c4 {w : World} {b : Nat} {s : Shp} (h : ShB w b s) : w.cell? ⟨b, 4, none⟩ = some (.bool s.number) := cell_of_row w b 4 _ _ (0, 0) h
theorem ShB.c5 {w : World} {b : Nat} {s : Shp} (h : ShB w b s) : w.cell? ⟨b, 5, none⟩ = some (.bool s.name) := cell_of_row w b 5 _ _ (0, 0) h
theorem ShB.c6 {w : World} {b : Nat} {s : Shp} (h : ShB w b s) : w.cell? ⟨b, 6, none⟩ = some (.bool s.names) := cell_of_row w b 6 _ _ (0, 0) h
/-- the number that a label says -/
def nmZ (l : Lab) : Int := sg l.s (val l.xs)
/-- has it a number that it may have? -/
def hnB (s : Shp) (sn : Bool) (xs : List Int) : Bool := StandsB sn xs.length xs && (decide (cmpI (sg sn (val xs)) 0 = 0) || (decide (0 < cmpI (sg sn (val xs)) 0) && s.number))
theorem zm_rd {w : World} {sn : Bool} {a : Option Addr} {l c : Nat} {xs : List Int} (h : Rd w a l c xs) : Zm w sn a l c (sg sn (val xs)) := ⟨val xs, ⟨xs, h, rfl⟩, rfl⟩
set_option maxRecDepth 100000 in
set_option maxHeartbeats 1600000 in
theorem hasNumber_n (s : Shp) {w : World} {sn : Bool} {a : Option Addr} {l c : Nat} {xs : List Int} (h : Rd w a l c xs) (hl : l ≤ 1073741824) :
  Calls Tryz.prog 81 #[shV s, .agg #[.bool sn, .slice a l c]] w fun en w' => en = .returned (.bool (hnB s sn xs)) ∧ Below w.heap.size w w' := by
 have b1 := below_alloc w (.cells #[.int .i64 s.is, .int .i64 s.kids, .int .i64 s.few, .int .i64 s.many, .bool s.number, .bool s.name, .bool s.names] 76)
 have b2 := below_alloc' b1 (.cells #[.bool sn, .slice a l c] 25)
 have hw2 := heap_alloc_new (w.alloc (.cells #[.int .i64 s.is, .int .i64 s.kids, .int .i64 s.few, .int .i64 s.many, .bool s.number, .bool s.name, .bool s.names] 76)) (.cells #[.bool sn, .slice a l c] 25)
 rw [show (w.alloc (.cells #[.int .i64 s.is, .int .i64 s.kids, .int .i64 s.few, .int .i64 s.many, .bool s.number, .bool s.name, .bool s.names] 76)).heap.size = w.heap.size + 1 by simp] at hw2
 have y2 := (shb_new w s).below (below_alloc _ (.cells #[.bool sn, .slice a l c] 25))
 have h2 := h.below b2
 have hxl : xs.length = l := h.1
 have e0 := cell_of_row _ (w.heap.size + 1) 0 _ _ (0, 0) hw2
 have e1 := cell_of_row _ (w.heap.size + 1) 1 _ _ (0, 0) hw2
 go_enter Tryz.func81, Tryz.ntmps81
 have hval := hide (zvalid_n (s := sn) h2)
 subst hxl
 replace y2 := hide y2
 replace h2 := hide h2
 replace b2 := hide b2
 clear b1 h
 go_wp2_with fail
 clear e0 e1
 generalize (w.alloc (.cells #[.int .i64 s.is, .int .i64 s.kids, .int .i64 s.few, .int .i64 s.many, .bool s.number, .bool s.name, .bool s.names] 76)).alloc (.cells #[.bool sn, .slice a xs.length c] 25) = wb at *
 refine hval.out.mono ?_
 rintro en w1 ⟨rfl, k1⟩
 have hb1 := hide (grow_step k1 b2.out)
 cases hv : StandsB sn xs.length xs with
 | false =>
  have hq : Hid (hnB s sn xs = false) := hide (by simp [hnB, hv])
  clear hval hw2 y2 h2 k1 hv
  go_wp2
  refine bodyPost_ret (results_tmp rfl _ _ _) rfl ?_
  exact ⟨by rw [hq.out]; rfl, hb1.out⟩
 | true =>
  have hw3 := (k1.block _ (lt_of_block hw2)).trans hw2
  have e0 := cell_of_row _ (w.heap.size + 1) 0 _ _ (0, 0) hw3
  have e1 := cell_of_row _ (w.heap.size + 1) 1 _ _ (0, 0) hw3
  have hsg := hide (zsign_n (zm_rd (sn := sn) (h2.out.below k1)) (by omega))
  have y3 := hide (y2.out.below k1)
  have hq : Hid (hnB s sn xs = (decide (cmpI (sg sn (val xs)) 0 = 0) || (decide (0 < cmpI (sg sn (val xs)) 0) && s.number))) := hide (by simp [hnB, hv])
  clear hval hw2 y2 h2 k1 hv hw3
  go_wp2_with fail
  clear e0 e1
  refine hsg.out.mono ?_
  rintro en w2 ⟨rfl, k2⟩
  have y4 := (y3.out.below k2).c4
  have hb2 := hide (grow_step k2 hb1.out)
  generalize cmpI (sg sn (val xs)) 0 = d at *
  clear hsg y3 hb1 k2
  by_cases hd : d = 0
  ·subst hd
   go_wp2
   refine bodyPost_ret (results_tmp rfl _ _ _) rfl ?_
   exact ⟨by rw [hq.out]; rfl, hb2.out⟩
  ·have hd0 : (d == 0) = false := by simpa using hd
   by_cases hd2 : 0 < d
   ·have hd3 : decide (0 < d) = true := decide_eq_true hd2
    have hq2 : Hid (hnB s sn xs = s.number) := hide (by rw [hq.out]; simp [hd, hd2])
    go_wp2
    refine bodyPost_ret (results_tmp rfl _ _ _) rfl ?_
    exact ⟨by rw [hq2.out]; rfl, hb2.out⟩
   ·have hd3 : decide (0 < d) = false := decide_eq_false hd2
    have hq2 : Hid (hnB s sn xs = false) := hide (by rw [hq.out]; simp [hd, hd2])
    go_wp2
    refine bodyPost_ret (results_tmp rfl _ _ _) rfl ?_
    exact ⟨by rw [hq2.out]; rfl, hb2.out⟩
/-- has it a name, if it should, and else none? -/
def hmB (s : Shp) (nm : ByteArray) : Bool := if s.name then nmB nm else decide (nm = ⟨#[]⟩)
set_option maxRecDepth 100000 in
set_option maxHeartbeats 1600000 in
theorem hasName_n (s : Shp) (nm : ByteArray) (hn : nm.size ≤ 1073741824) (w : World) :
  Calls Tryz.prog 82 #[shV s, .string nm] w fun en w' => en = .returned (.bool (hmB s nm)) ∧ Below w.heap.size w w' := by
 obtain ⟨i, kd, fw, mn, nu, na, ns⟩ := s
 have b1 := hide (below_alloc w (.cells #[.int .i64 i, .int .i64 kd, .int .i64 fw, .int .i64 mn, .bool nu, .bool na, .bool ns] 76))
 have y5 := (shb_new w ⟨i, kd, fw, mn, nu, na, ns⟩).c5
 dsimp only at y5
 go_enter Tryz.func82, Tryz.ntmps82
 cases na with
 | true =>
  have hnm := hide (isName_n nm (w.alloc (.cells #[.int .i64 i, .int .i64 kd, .int .i64 fw, .int .i64 mn, .bool nu, .bool true, .bool ns] 76)) (by omega))
  go_wp2_with fail
  refine hnm.out.mono ?_
  rintro en w1 ⟨rfl, rfl⟩
  go_wp2
  refine bodyPost_ret (results_tmp rfl _ _ _) rfl ?_
  exact ⟨rfl, b1.out⟩
 | false =>
  by_cases hm : nm = ⟨#[]⟩
  ·subst hm
   go_wp2
   refine bodyPost_ret (results_tmp rfl _ _ _) rfl ?_
   exact ⟨by simp [hmB], b1.out⟩
  ·have hq : Hid (hmB ⟨i, kd, fw, mn, nu, false, ns⟩ nm = false) := hide (by simp [hmB, hm])
   have hb : nm.toList.isEmpty = false := by
    rw [Bool.eq_false_iff]
    exact fun e => hm (toList_iff.1 (by rw [List.isEmpty_iff.1 e, show (⟨#[]⟩ : ByteArray).toList = [] by kernel_rfl]; rfl))
   go_wp2
   refine bodyPost_ret (results_tmp rfl _ _ _) rfl ?_
   exact ⟨by rw [hq.out]; rfl, b1.out⟩
/-- has it names, if it should, and else none? -/
def hsB (s : Shp) (l : List ByteArray) : Bool := l.all nmB && (s.names == decide (0 < l.length))
set_option maxRecDepth 100000 in
set_option maxHeartbeats 1600000 in
theorem hasNames_n (s : Shp) {F : Nat → Prop} {w : World} {a : Option Addr} {n c : Nat} {l : List ByteArray} (h : NmL F w a n l) (hn : n ≤ 1073741824) (hl : ∀ x ∈ l, x.size ≤ 1073741824) :
  Calls Tryz.prog 83 #[shV s, .slice a n c] w fun en w' => en = .returned (.bool (hsB s l)) ∧ Below w.heap.size w w' := by
 have b1 := below_alloc w (.cells #[.int .i64 s.is, .int .i64 s.kids, .int .i64 s.few, .int .i64 s.many, .bool s.number, .bool s.name, .bool s.names] 76)
 have y5 := shb_new w s
 have h2 := h.kf (Kf.of_below b1)
 have hb1 := hide b1
 clear b1 h
 go_enter Tryz.func83, Tryz.ntmps83
 go_wp2_with fail
 generalize w.alloc (.cells #[.int .i64 s.is, .int .i64 s.kids, .int .i64 s.few, .int .i64 s.many, .bool s.number, .bool s.name, .bool s.names] 76) = wb at *
 go_loopw [9] (fun i wr => ∃ t : Nat, t ≤ n ∧ i = .int .i64 t ∧ wr = wb ∧ Hid ((l.take t).all nmB = true)) (fun i _ => n - (intOf i).toNat)
 case atStart => exact ⟨0, Nat.zero_le _, rfl, rfl, hide rfl⟩
 case round =>
  obtain ⟨t, ht, rfl, rfl, hall⟩ := hrel
  by_cases htn : t < n
  ·have hlt : decide ((t : Int) < (n : Int)) = true := by
    rw [decide_eq_true_eq]
    omega
   obtain ⟨b, off, rfl, hF, hbl, hc⟩ := h2.2.resolve_left (by omega)
   have htl : t < l.length := by rw [h2.1]; exact htn
   have ct := hc t htl
   have hsz := hl _ (List.getElem_mem htl)
   have hone := hide (take_one (List.getElem?_eq_getElem htl))
   have hmem := hide (List.getElem_mem htl)
   generalize l[t] = nm at ct hsz hone hmem
   have hi : (t : Int) < (n : Int) := by omega
   have hwr : IntKind.i64.wrap ((t : Int) + 1) = ((t + 1 : Nat) : Int) := by
    rw [IntKind.wrap_i64]
    omega
   have hnm := hide (isName_n nm wr (by omega))
   clear hc
   go_wp2_with fail
   refine hnm.out.mono ?_
   rintro en w1 ⟨rfl, rfl⟩
   clear hnm ct
   cases hv : nmB nm with
   | true =>
    have hnew : Hid ((l.take (t + 1)).all nmB = true) := hide (by rw [hone.out, List.all_append, hall.out]; simp [hv])
    go_wp2
    go_roundw
    case measure => simp [intOf]; omega
    case rel => exact ⟨t + 1, by omega, by first | rfl | trivial, by first | rfl | trivial, hnew⟩
   | false =>
    have hq : Hid (hsB s l = false) := hide (by
     have : l.all nmB = false := by
      rw [List.all_eq_false]
      exact ⟨nm, hmem.out, by simp [hv]⟩
     simp [hsB, this])
    go_wp2
    refine bodyPost_ret (results_tmp rfl _ _ _) rfl ?_
    exact ⟨by rw [hq.out]; rfl, hb1.out⟩
  ·obtain rfl : t = n := by omega
   have hlt : decide ((t : Int) < (t : Int)) = false := by simp
   have c6 := y5.c6
   have hq : Hid (hsB s l = (s.names == decide (0 < t))) := hide (by
    have h3 := hall.out
    rw [show l.take t = l by rw [← h2.1]; exact List.take_length] at h3
    rw [hsB, h3, h2.1]
    rfl)
   go_wp2
   refine bodyPost_ret (results_tmp rfl _ _ _) rfl ?_
   exact ⟨by rw [hq.out]; rfl, hb1.out⟩
/-- has it as many kids as it should, of the kind that they should have? -/
def hkB (s : Shp) (ks : List Tr) : Bool := ks.all (fun u => decide ((shp (lbO u).k).is = s.kids)) && (decide (s.few ≤ ks.length) && decide ((ks.length : Int) ≤ s.many))
theorem fd_is (s : Shp) (w : World) : (Instr.field 76 (shV s) 0).run Tryz.prog w = .ok (.int .i64 s.is) w := by kernel_rfl
set_option maxRecDepth 100000 in
set_option maxHeartbeats 1600000 in
theorem hasKids_n (s : Shp) {w : World} {a : Option Addr} {n c : Nat} {ks : List Tr} (h : KL An w ⟨a, n, c⟩ ks) (hn : n ≤ 1073741824) :
  Calls Tryz.prog 84 #[shV s, .slice a n c] w fun en w' => en = .returned (.bool (hkB s ks)) ∧ Below w.heap.size w w' := by
 have b1 := below_alloc w (.cells #[.int .i64 s.is, .int .i64 s.kids, .int .i64 s.few, .int .i64 s.many, .bool s.number, .bool s.name, .bool s.names] 76)
 have y5 := shb_new w s
 have h2 := h.kf (Kf.of_below b1)
 have hb1 := hide b1
 clear b1 h
 go_enter Tryz.func84, Tryz.ntmps84
 go_wp2_with fail
 generalize w.alloc (.cells #[.int .i64 s.is, .int .i64 s.kids, .int .i64 s.few, .int .i64 s.many, .bool s.number, .bool s.name, .bool s.names] 76) = wb at *
 go_loopw [9] (fun i wr => ∃ t : Nat, t ≤ n ∧ i = .int .i64 t ∧ Hid (Below wb.heap.size wb wr) ∧ Hid ((ks.take t).all (fun u => decide ((shp (lbO u).k).is = s.kids)) = true)) (fun i _ => n - (intOf i).toNat)
 case atStart => exact ⟨0, Nat.zero_le _, rfl, hide (Below.refl _ _), hide rfl⟩
 case round =>
  obtain ⟨t, ht, rfl, hbw, hall⟩ := hrel
  by_cases htn : t < n
  ·have hlt : decide ((t : Int) < (n : Int)) = true := by
    rw [decide_eq_true_eq]
    omega
   obtain ⟨b2, off2, e2, -, hub, hc⟩ := h2.2.resolve_left (show ¬ n = 0 by omega)
   subst e2
   have htl : t < ks.length := by rw [h2.1]; exact htn
   obtain ⟨y, hcy, hy⟩ := hc t htl
   have hone := hide (take_one (List.getElem?_eq_getElem htl))
   have hmem := hide (List.getElem_mem htl)
   generalize ks[t] = u at hy hone hmem
   obtain ⟨lu, ku, rfl⟩ := rt_of hy
   have hku : lu.k = y.k := (rt_nd hy).1.k
   have hcw : ∀ i, i < 6 → wr.cell? ⟨b2, off2 + t * 6 + i, none⟩ = y.enc[i]? := fun i hi => (World.cell?_of_block (a := ⟨b2, off2 + t * 6 + i, none⟩) (hbw.out.block b2 hub.lt)).trans (hcy i hi)
   have e0 : wr.cell? ⟨b2, off2 + t * 6, none⟩ = some (.int .i64 y.k) := hcw 0 (by decide)
   have e1 : wr.cell? ⟨b2, off2 + t * 6 + 1, none⟩ = some (.string y.nm) := hcw 1 (by decide)
   have e2 : wr.cell? ⟨b2, off2 + t * 6 + 2, none⟩ = some (.slice y.na y.nn y.nc) := hcw 2 (by decide)
   have e3 : wr.cell? ⟨b2, off2 + t * 6 + 3, none⟩ = some (.bool y.s) := hcw 3 (by decide)
   have e4 : wr.cell? ⟨b2, off2 + t * 6 + 4, none⟩ = some (.slice y.a y.l y.c) := hcw 4 (by decide)
   have e5 : wr.cell? ⟨b2, off2 + t * 6 + 5, none⟩ = some (.slice y.ka y.kn y.kc) := hcw 5 (by decide)
   have hi : (t : Int) < (n : Int) := by omega
   have hwr : IntKind.i64.wrap ((t : Int) + 1) = ((t + 1 : Nat) : Int) := by
    rw [IntKind.wrap_i64]
    omega
   have b3 := below_alloc wr (.cells #[.int .i64 y.k, .string y.nm, .slice y.na y.nn y.nc, .bool y.s, .slice y.a y.l y.c, .slice y.ka y.kn y.kc] 28)
   have y3 := vb_new wr y
   have hbw3 := hide (grow_step b3 hbw.out)
   have hs1 := y5.c1
   clear hc hcy hcw hy
   iterate 34 (first | go_skip | go_guarded | go_step | go_upon | go_simp)
   clear e0 e1 e2 e3 e4 e5
   generalize wr.alloc (.cells #[.int .i64 y.k, .string y.nm, .slice y.na y.nn y.nc, .bool y.s, .slice y.a y.l y.c, .slice y.ka y.kn y.kc] 28) = wv at *
   generalize wr.heap.size = bt at *
   have y6 := y5.below hbw3.out
   have kd := grow_drew (Below.refl wv.heap.size wv)
   have hSS : Hid (∀ w', Below wv.heap.size wv w' → w'.cell? ⟨bt, 0, none⟩ = some (.int .i64 y.k) ∧ w'.cell? ⟨w.heap.size, 1, none⟩ = some (.int .i64 s.kids)) := hide fun w' k => ⟨(y3.below k).c0, (y6.below k).c1⟩
   refine wp_region_held_drew (S := (fun w' => w'.cell? ⟨bt, 0, none⟩ = some (.int .i64 y.k) ∧ w'.cell? ⟨w.heap.size, 1, none⟩ = some (.int .i64 s.kids))) (by kernel_rfl) (hSS.out _ kd) (fun hHeld => ?_)
   show wpAnyH _ _ _ _ _ 7 _ _ _
   have hbd := hide kd
   have hsh := shapeOf_n y.k wv.drew
   have hfd := fd_is (shp y.k)
   generalize wv.drew = wd at *
   clear y3 y6 kd hs1
   refine wpAnyH_take (i := 0) (oi := ⟨some 13, _, _, _, _, _⟩) (v := ?_) rfl (by kernel_rfl) (by kernel_rfl) (by kernel_rfl) (fun _ _ _ h => by first | exact h | cases h.1) (Or.inl ⟨by rfl, ?_⟩) (by assumption) ?_
   rotate_left
   ·intro wq hSw; (try dsimp only at hSw); go_simp; (try with_reducible rfl)
   (try simp only [Act.put, List.setIfInBounds_toArray, List.set_cons_zero, List.set_cons_succ])
   refine wpAnyH_take (i := 1) (oi := ⟨some 14, _, _, _, _, _⟩) (v := ?_) rfl (by kernel_rfl) (by kernel_rfl) (by kernel_rfl) (fun _ _ _ h => by first | exact h | cases h.1) (Or.inl ⟨by rfl, ?_⟩) (by assumption) ?_
   rotate_left
   ·intro wq hSw; (try dsimp only at hSw); go_simp; (try with_reducible rfl)
   (try simp only [Act.put, List.setIfInBounds_toArray, List.set_cons_zero, List.set_cons_succ])
   refine wpAnyH_take (i := 4) (oi := ⟨some 17, _, _, _, _, _⟩) (v := ?_) rfl (by kernel_rfl) (by kernel_rfl) (by kernel_rfl) (fun _ _ _ h => by first | exact h | cases h.1) (Or.inl ⟨by rfl, ?_⟩) (by assumption) ?_
   rotate_left
   ·intro wq hSw; (try dsimp only at hSw); go_simp; (try with_reducible rfl)
   (try simp only [Act.put, List.setIfInBounds_toArray, List.set_cons_zero, List.set_cons_succ])
   refine wpAnyH_take (i := 5) (oi := ⟨some 18, _, _, _, _, _⟩) (v := ?_) rfl (by kernel_rfl) (by kernel_rfl) (by kernel_rfl) (fun _ _ _ h => by first | exact h | cases h.1) (Or.inl ⟨by rfl, ?_⟩) (by assumption) ?_
   rotate_left
   ·intro wq hSw; (try dsimp only at hSw); go_simp; (try with_reducible rfl)
   (try simp only [Act.put, List.setIfInBounds_toArray, List.set_cons_zero, List.set_cons_succ])
   refine wpAnyH_ready (rs := [2]) (by kernel_rfl) (by simp) ?_
   refine AllReadyH.cons (o := ⟨some 15, _, _, _, _, _⟩) rfl (fun K hK => ?_) AllReadyH.nil
   go_simp
   refine Calls.mono hsh ?_
   rintro en w4 ⟨rfl, k4⟩
   have hb4 := hide (grow_step k4 hbd.out)
   (try go_wp2_with fail)
   refine hK.out _ _ ?_ ?_
   ·(try dsimp only); exact hSS.out _ hb4.out
   clear hK K hHeld; intro hHeld
   (try simp only [Act.put, List.setIfInBounds_toArray, List.set_cons_zero, List.set_cons_succ])
   refine wpAnyH_ready (rs := [3]) (by kernel_rfl) (by simp) ?_
   refine AllReadyH.cons (o := ⟨some 16, _, _, _, _, _⟩) rfl (fun K hK => ?_) AllReadyH.nil
   go_simp
   refine hK.out _ _ ?_ ?_
   ·(try dsimp only); exact hSS.out _ hb4.out
   clear hK K hHeld; intro hHeld
   (try simp only [Act.put, List.setIfInBounds_toArray, List.set_cons_zero, List.set_cons_succ])
   refine wpAnyH_ready (rs := [6]) (by kernel_rfl) (by simp) ?_
   refine AllReadyH.cons (o := ⟨some 19, _, _, _, _, _⟩) rfl (fun K hK => ?_) AllReadyH.nil
   go_simp
   refine hK.out _ _ ?_ ?_
   ·(try dsimp only); exact hSS.out _ hb4.out
   clear hK K hHeld; intro hHeld
   (try simp only [Act.put, List.setIfInBounds_toArray, List.set_cons_zero, List.set_cons_succ])
   refine wpAnyH_done (by kernel_rfl) ?_ _
   have hbf := hide (grow_step hb4.out hbw3.out)
   clear hfd hbd hSS hsh
   by_cases hk : (shp y.k).is = s.kids
   ·have hk2 : ((shp y.k).is != s.kids) = false := by simpa using hk
    have hnew : Hid ((ks.take (t + 1)).all (fun u => decide ((shp (lbO u).k).is = s.kids)) = true) := hide (by rw [hone.out, List.all_append, hall.out]; simp [lbO_nd, hku, hk])
    replace hk := hide hk
    go_wp2
    go_roundw
    case measure => simp [intOf]; omega
    case rel => exact ⟨t + 1, by omega, by first | rfl | trivial, hbf, hnew⟩
   ·have hk2 : ((shp y.k).is != s.kids) = true := by simpa using hk
    have hq : Hid (hkB s ks = false) := hide (by
     have : ks.all (fun u => decide ((shp (lbO u).k).is = s.kids)) = false := by
      rw [List.all_eq_false]
      exact ⟨_, hmem.out, by simp [lbO_nd, hku, hk]⟩
     simp [hkB, this])
    have hbg := hide (grow_step hbf.out hb1.out)
    replace hk := hide hk
    go_wp2
    refine bodyPost_ret (results_tmp rfl _ _ _) rfl ?_
    exact ⟨by rw [hq.out]; rfl, hbg.out⟩
  ·obtain rfl : t = n := by omega
   have hlt : decide ((t : Int) < (t : Int)) = false := by simp
   have c2 := (y5.below hbw.out).c2
   have c3 := (y5.below hbw.out).c3
   have hbf := hide (grow_step hbw.out hb1.out)
   have hq : Hid (hkB s ks = (decide (s.few ≤ (t : Int)) && decide ((t : Int) ≤ s.many))) := hide (by
    have h3 := hall.out
    have h4 : ks.length = t := h2.1
    rw [show ks.take t = ks by rw [← h4]; exact List.take_length] at h3
    rw [hkB, h3, h4]
    rfl)
   cases hd : decide (s.few ≤ (t : Int)) with
   | true =>
    rw [hd] at hq
    go_wp2
    refine bodyPost_ret (results_tmp rfl _ _ _) rfl ?_
    exact ⟨by rw [hq.out]; rfl, hbf.out⟩
   | false =>
    rw [hd] at hq
    go_wp2
    refine bodyPost_ret (results_tmp rfl _ _ _) rfl ?_
    exact ⟨by rw [hq.out]; rfl, hbf.out⟩
end Sx
end Go.Proofs.YtgpaajolcpgeaaaGreatDoor

namespace Go.Proofs.YtgpaajolcpgeaaaGreatDoor
open Go.RowKit
namespace Sx

/-- does a tree itself stand as the table says? -/
def stB (l : Lab) (ks : List Tr) : Bool := ((shp l.k).is != 0) && (hnB (shp l.k) l.s l.xs && (hmB (shp l.k) l.nm && (hsB (shp l.k) l.nms && hkB (shp l.k) ks)))
set_option maxRecDepth 100000 in
set_option maxHeartbeats 3200000 in
theorem stands_n {w : World} {x : TC} {lb : Lab} {ks : List Tr} (hx : Rt An w x (nd lb ks)) (hB : Bd4 lb) (hK : ks.length ≤ 1073741824) :
  Calls Tryz.prog 45 #[x.val] w fun en w' => en = .returned (.bool (stB lb ks)) ∧ Below w.heap.size w w' := by
 have b0 := below_alloc w (.cells #[.int .i64 x.k, .string x.nm, .slice x.na x.nn x.nc, .bool x.s, .slice x.a x.l x.c, .slice x.ka x.kn x.kc] 28)
 have y0 := vb_new w x
 have e0 := y0.c0
 have hx0 := rt_below hx b0
 obtain ⟨hl0, hk0⟩ := rt_nd hx0
 have hkk : lb.k = x.k := hl0.k
 obtain ⟨lk, lnm, lnms, ls, lxs⟩ := lb
 obtain ⟨hBx, hBn, hBnn, hBns⟩ := hB
 obtain ⟨-, h2, h3, h4, h5, -⟩ := hl0
 dsimp only at *
 subst hkk h2 h3
 have hln := h5.1
 have hkn := hk0.1
 have hnn := h4.1
 have hsh := hide (shapeOf_n x.k (w.alloc (.cells #[.int .i64 x.k, .string x.nm, .slice x.na x.nn x.nc, .bool x.s, .slice x.a x.l x.c, .slice x.ka x.kn x.kc] 28)))
 replace b0 := hide b0
 replace hln := hide hln
 replace hkn := hide hkn
 replace hnn := hide hnn
 replace h4 := hide h4
 replace h5 := hide h5
 replace hk0 := hide hk0
 replace y0 := hide y0
 clear hx hx0
 go_enter Tryz.func45, Tryz.ntmps45
 go_wp2_with fail
 clear e0
 generalize w.alloc (.cells #[.int .i64 x.k, .string x.nm, .slice x.na x.nn x.nc, .bool x.s, .slice x.a x.l x.c, .slice x.ka x.kn x.kc] 28) = wa at *
 refine hsh.out.mono ?_
 rintro en w1 ⟨rfl, k1⟩
 clear hsh
 have hst : Hid (stB ⟨x.k, x.nm, lnms, x.s, lxs⟩ ks = (((shp x.k).is != 0) && (hnB (shp x.k) x.s lxs && (hmB (shp x.k) x.nm && (hsB (shp x.k) lnms && hkB (shp x.k) ks))))) := hide rfl
 generalize shp x.k = s at *
 have y1 := y0.out.below k1
 have r1 := h5.out.below k1
 have n1 := h4.out.kf (Kf.of_below k1)
 have q1 := KL.kf (s := ⟨x.ka, x.kn, x.kc⟩) hk0.out (Kf.of_below k1)
 have b1 := grow_step k1 b0.out
 have b2 := below_alloc w1 (.cells #[.int .i64 s.is, .int .i64 s.kids, .int .i64 s.few, .int .i64 s.many, .bool s.number, .bool s.name, .bool s.names] 76)
 have y2 := y1.below b2
 have z2 := shb_new w1 s
 have r2 := r1.below b2
 have n2 := n1.kf (Kf.of_below b2)
 have q2 := KL.kf (s := ⟨x.ka, x.kn, x.kc⟩) q1 (Kf.of_below b2)
 have hb2 := hide (grow_step b2 b1)
 clear y0 h4 h5 hk0 b0 y1 r1 n1 q1 b1 b2 k1
 iterate 8 (first | go_skip | go_guarded | go_step | go_upon | go_simp)
 generalize w1.alloc (.cells #[.int .i64 s.is, .int .i64 s.kids, .int .i64 s.few, .int .i64 s.many, .bool s.number, .bool s.name, .bool s.names] 76) = w2 at *
 generalize w1.heap.size = bs at *
 have s0 := z2.c0
 have s1 := z2.c1
 have s2 := z2.c2
 have s3 := z2.c3
 have s4 := z2.c4
 have s5 := z2.c5
 have s6 := z2.c6
 have t1 := y2.c1
 have t2 := y2.c2
 have t3 := y2.c3
 have t4 := y2.c4
 have t5 := y2.c5
 cases hi : (s.is != 0) with
 | false =>
  rw [hi] at hst
  go_wp2
  refine bodyPost_ret (results_tmp rfl _ _ _) rfl ?_
  exact ⟨by rw [hst.out]; rfl, hb2.out⟩
 | true =>
  rw [hi] at hst
  have hc := hide (hasNumber_n s (sn := x.s) r2 (by have := hln.out; omega))
  go_wp2_with fail
  refine hc.out.mono ?_
  rintro en w3 ⟨rfl, k3⟩
  clear s0 s1 s2 s3 s4 s5 s6 t1 t2 t3 t4 t5
  clear hc
  have y3 := y2.below k3
  have z3 := z2.below k3
  have r3 := r2.below k3
  have n3 := n2.kf (Kf.of_below k3)
  have q3 := KL.kf (s := ⟨x.ka, x.kn, x.kc⟩) q2 (Kf.of_below k3)
  have hb3 := hide (grow_step k3 hb2.out)
  clear y2 z2 r2 n2 q2 hb2 k3
  have s0 := z3.c0
  have s1 := z3.c1
  have s2 := z3.c2
  have s3 := z3.c3
  have s4 := z3.c4
  have s5 := z3.c5
  have s6 := z3.c6
  have t1 := y3.c1
  have t2 := y3.c2
  have t3 := y3.c3
  have t4 := y3.c4
  have t5 := y3.c5
  cases hv0 : hnB s x.s lxs with
  | false =>
   rw [hv0] at hst
   go_wp2
   refine bodyPost_ret (results_tmp rfl _ _ _) rfl ?_
   exact ⟨by rw [hst.out]; rfl, hb3.out⟩
  | true =>
   rw [hv0] at hst
   have hc := hide (hasName_n s x.nm hBn w3)
   go_wp2_with fail
   refine hc.out.mono ?_
   rintro en w4 ⟨rfl, k4⟩
   clear s0 s1 s2 s3 s4 s5 s6 t1 t2 t3 t4 t5
   clear hc
   have y4 := y3.below k4
   have z4 := z3.below k4
   have r4 := r3.below k4
   have n4 := n3.kf (Kf.of_below k4)
   have q4 := KL.kf (s := ⟨x.ka, x.kn, x.kc⟩) q3 (Kf.of_below k4)
   have hb4 := hide (grow_step k4 hb3.out)
   clear y3 z3 r3 n3 q3 hb3 k4
   have s0 := z4.c0
   have s1 := z4.c1
   have s2 := z4.c2
   have s3 := z4.c3
   have s4 := z4.c4
   have s5 := z4.c5
   have s6 := z4.c6
   have t1 := y4.c1
   have t2 := y4.c2
   have t3 := y4.c3
   have t4 := y4.c4
   have t5 := y4.c5
   cases hv1 : hmB s x.nm with
   | false =>
    rw [hv1] at hst
    go_wp2
    refine bodyPost_ret (results_tmp rfl _ _ _) rfl ?_
    exact ⟨by rw [hst.out]; rfl, hb4.out⟩
   | true =>
    rw [hv1] at hst
    have hc := hide (hasNames_n s n4 (c := x.nc) (by have := hnn.out; omega) hBns)
    go_wp2_with fail
    refine hc.out.mono ?_
    rintro en w5 ⟨rfl, k5⟩
    clear s0 s1 s2 s3 s4 s5 s6 t1 t2 t3 t4 t5
    clear hc
    have y5 := y4.below k5
    have z5 := z4.below k5
    have r5 := r4.below k5
    have n5 := n4.kf (Kf.of_below k5)
    have q5 := KL.kf (s := ⟨x.ka, x.kn, x.kc⟩) q4 (Kf.of_below k5)
    have hb5 := hide (grow_step k5 hb4.out)
    clear y4 z4 r4 n4 q4 hb4 k5
    have s0 := z5.c0
    have s1 := z5.c1
    have s2 := z5.c2
    have s3 := z5.c3
    have s4 := z5.c4
    have s5 := z5.c5
    have s6 := z5.c6
    have t1 := y5.c1
    have t2 := y5.c2
    have t3 := y5.c3
    have t4 := y5.c4
    have t5 := y5.c5
    cases hv2 : hsB s lnms with
    | false =>
     rw [hv2] at hst
     go_wp2
     refine bodyPost_ret (results_tmp rfl _ _ _) rfl ?_
     exact ⟨by rw [hst.out]; rfl, hb5.out⟩
    | true =>
     rw [hv2] at hst
     have hc := hide (hasKids_n s q5 (by have := hkn.out; omega))
     go_wp2_with fail
     refine hc.out.mono ?_
     rintro en w6 ⟨rfl, k6⟩
     clear s0 s1 s2 s3 s4 s5 s6 t1 t2 t3 t4 t5
     clear hc
     have y6 := y5.below k6
     have z6 := z5.below k6
     have r6 := r5.below k6
     have n6 := n5.kf (Kf.of_below k6)
     have q6 := KL.kf (s := ⟨x.ka, x.kn, x.kc⟩) q5 (Kf.of_below k6)
     have hb6 := hide (grow_step k6 hb5.out)
     clear y5 z5 r5 n5 q5 hb5 k6
     have s0 := z6.c0
     have s1 := z6.c1
     have s2 := z6.c2
     have s3 := z6.c3
     have s4 := z6.c4
     have s5 := z6.c5
     have s6 := z6.c6
     have t1 := y6.c1
     have t2 := y6.c2
     have t3 := y6.c3
     have t4 := y6.c4
     have t5 := y6.c5
     cases hv3 : hkB s ks with
     | false =>
      rw [hv3] at hst
      go_wp2
      refine bodyPost_ret (results_tmp rfl _ _ _) rfl ?_
      exact ⟨by rw [hst.out]; rfl, hb6.out⟩
     | true =>
      rw [hv3] at hst
      go_wp2
      refine bodyPost_ret (results_tmp rfl _ _ _) rfl ?_
      exact ⟨by rw [hst.out]; rfl, hb6.out⟩
end Sx
end Go.Proofs.YtgpaajolcpgeaaaGreatDoor

namespace Go.Proofs.YtgpaajolcpgeaaaGreatDoor
open Go.RowKit
namespace Sx

/-- what was seen, what is left (lists LL, and the rest R of the list at hand): nothing is forgotten -/
structure TrD (f N : Nat) (t : Tr) (vis : List Tr) (LL : List (List Tr)) (R : List Tr) : Prop where
 cov : ∀ v ∈ vis, ∀ k ∈ ksO v, k ∈ vis ∨ k ∈ LL.flatten ∨ k ∈ R
 root : t ∈ vis ∨ t ∈ LL.flatten ∨ t ∈ R
 subV : ∀ u ∈ vis, ∃ n, At4 n t u
 subL : ∀ u ∈ LL.flatten, ∃ n, At4 n t u
 subR : ∀ u ∈ R, ∃ n, At4 n t u
 dpL : ∀ u ∈ LL.flatten, ¬ Dp f u
 dpR : ∀ u ∈ R, ¬ Dp f u
 ne : ∀ L ∈ LL, L ≠ []
 sum : vis.length + cnL f LL.flatten + cnL f R ≤ N
theorem TrD.pop {f N : Nat} {t : Tr} {vis : List Tr} {LL : List (List Tr)} {L : List Tr} (h : TrD f N t vis (LL ++ [L]) []) : TrD f N t vis LL L := by
 have e : (LL ++ [L]).flatten = LL.flatten ++ L := by simp
 have h1 := h.cov
 have h2 := h.root
 have h3 := h.subL
 have h4 := h.dpL
 have h5 := h.sum
 rw [e] at h1 h2 h3 h4 h5
 rw [cnL_append] at h5
 refine { cov := fun v hv k hk => ?_, root := ?_, subV := h.subV, subL := fun u hu => h3 u (by simp [hu]), subR := fun u hu => h3 u (by simp [hu]), dpL := fun u hu => h4 u (by simp [hu]), dpR := fun u hu => h4 u (by simp [hu]), ne := fun L' hL => h.ne L' (by simp [hL]), sum := by rw [cnL_nil] at h5; omega }
 ·rcases h1 v hv k hk with h | h | h
  ·exact .inl h
  ·exact .inr (List.mem_append.1 h)
  ·cases h
 ·rcases h2 with h | h | h
  ·exact .inl h
  ·exact .inr (List.mem_append.1 h)
  ·cases h
theorem at_kid {n : Nat} {t u k : Tr} (h : At4 n t u) (hk : k ∈ ksO u) : At4 (n + 1) t k := at_step.2 ⟨u, h, hk⟩
/-- a tree more was seen, whose kids were seen or are left already -/
theorem TrD.see {f N : Nat} {t u : Tr} {vis : List Tr} {LL : List (List Tr)} {R : List Tr} (h : TrD f N t vis LL (u :: R)) (hk : ∀ k ∈ ksO u, k ∈ vis ++ [u] ∨ k ∈ LL.flatten ∨ k ∈ R) : TrD f N t (vis ++ [u]) LL R := by
 have hmv : ∀ k, (k ∈ vis ∨ k ∈ LL.flatten ∨ k ∈ u :: R) → k ∈ vis ++ [u] ∨ k ∈ LL.flatten ∨ k ∈ R := fun k hk => by
  rcases hk with hk | hk | hk
  ·exact .inl (by simp [hk])
  ·exact .inr (.inl hk)
  ·rcases List.mem_cons.1 hk with rfl | hk
   ·exact .inl (by simp)
   ·exact .inr (.inr hk)
 have hd := cnt_self (h.dpR u (by simp))
 have hs := h.sum
 rw [cnL_cons] at hs
 refine { cov := fun v hv k hk' => ?_, root := hmv _ h.root, subV := fun v hv => ?_, subL := h.subL, subR := fun v hv => h.subR v (by simp [hv]), dpL := h.dpL, dpR := fun v hv => h.dpR v (by simp [hv]), ne := h.ne, sum := by rw [List.length_append, List.length_singleton]; omega }
 ·rcases List.mem_append.1 hv with hv | hv
  ·exact hmv _ (h.cov v hv k hk')
  ·obtain rfl := List.mem_singleton.1 hv
   exact hk k hk'
 ·rcases List.mem_append.1 hv with hv | hv
  ·exact h.subV v hv
  ·obtain rfl := List.mem_singleton.1 hv
   exact h.subR _ (by simp)
/-- .. whose kids are laid by -/
theorem TrD.lay {f N : Nat} {t u : Tr} {vis : List Tr} {LL : List (List Tr)} {R : List Tr} (h : TrD f N t vis LL (u :: R)) (hne : ksO u ≠ []) : TrD f N t (vis ++ [u]) (LL ++ [ksO u]) R := by
 have e : (LL ++ [ksO u]).flatten = LL.flatten ++ ksO u := by simp
 have hmv : ∀ k, (k ∈ vis ∨ k ∈ LL.flatten ∨ k ∈ u :: R) → k ∈ vis ++ [u] ∨ k ∈ (LL ++ [ksO u]).flatten ∨ k ∈ R := fun k hk => by
  rw [e]
  rcases hk with hk | hk | hk
  ·exact .inl (by simp [hk])
  ·exact .inr (.inl (by simp [hk]))
  ·rcases List.mem_cons.1 hk with rfl | hk
   ·exact .inl (by simp)
   ·exact .inr (.inr hk)
 have hd := cnt_self (h.dpR u (by simp))
 have hs := h.sum
 rw [cnL_cons] at hs
 refine { cov := fun v hv k hk' => ?_, root := hmv _ h.root, subV := fun v hv => ?_, subL := fun v hv => ?_, subR := fun v hv => h.subR v (by simp [hv]), dpL := fun v hv => ?_, dpR := fun v hv => h.dpR v (by simp [hv]), ne := fun L hL => ?_, sum := by rw [e, cnL_append, List.length_append, List.length_singleton]; omega }
 ·rcases List.mem_append.1 hv with hv | hv
  ·exact hmv _ (h.cov v hv k hk')
  ·obtain rfl := List.mem_singleton.1 hv
   rw [e]
   exact .inr (.inl (by simp [hk']))
 ·rcases List.mem_append.1 hv with hv | hv
  ·exact h.subV v hv
  ·obtain rfl := List.mem_singleton.1 hv
   exact h.subR _ (by simp)
 ·rw [e] at hv
  rcases List.mem_append.1 hv with hv | hv
  ·exact h.subL v hv
  ·obtain ⟨n, hn⟩ := h.subR u (by simp)
   exact ⟨n + 1, at_kid hn hv⟩
 ·rw [e] at hv
  rcases List.mem_append.1 hv with hv | hv
  ·exact h.dpL v hv
  ·exact dp_kid (h.dpR u (by simp)) hv
 ·rcases List.mem_append.1 hL with hL | hL
  ·exact h.ne L hL
  ·obtain rfl := List.mem_singleton.1 hL
   exact hne
/-- at the end all was seen -/
theorem TrD.all {f N : Nat} {t : Tr} {vis : List Tr} (h : TrD f N t vis [] []) : ∀ n u, At4 n t u → u ∈ vis := by
 intro n
 induction n with
 | zero =>
  intro u hu
  cases hu
  simpa using h.root
 | succ n ih =>
  intro u hu
  obtain ⟨v, hv, hk⟩ := at_step.1 hu
  simpa using h.cov v (ih v hv) u hk
/-- the walk's memory: the row of lists, the map of those that were met -/
structure TrM (F : Nat → Prop) (base m : Nat) (v : Value) (wr : World) (q : List SlT) (LL : List (List Tr)) (E : List (Value × Value)) (S : Tr → Prop) : Prop where
 own : wr.ownsRow base 26 1 v q.length (q.map SlT.val)
 pr : Prs F wr q LL
 met : Met F wr m E
 key : ∀ p ∈ E, ∃ s L, p.1 = spV s.ka s.kn ∧ KL F wr s L ∧ ∀ k ∈ L, S k
 mb : m < base
 nF : ¬ F m
 hF : ∀ b, F b → b < base
theorem TrM.imp {F : Nat → Prop} {base m : Nat} {v : Value} {wr : World} {q : List SlT} {LL : List (List Tr)} {E : List (Value × Value)} {S S' : Tr → Prop} (h : TrM F base m v wr q LL E S) (hS : ∀ k, S k → S' k) : TrM F base m v wr q LL E S' :=
 { h with
  key := fun p hp => by
   obtain ⟨s, L, h1, h2, h3⟩ := h.key p hp
   exact ⟨s, L, h1, h2, fun k hk => hS k (h3 k hk)⟩ }
/-- all that it holds stays -/
theorem TrM.kept {F : Nat → Prop} {base m : Nat} {v : Value} {wr w' : World} {q : List SlT} {LL : List (List Tr)} {E : List (Value × Value)} {S : Tr → Prop} (h : TrM F base m v wr q LL E S) (hk : Kf F wr w') (hm : w'.heap[m]? = wr.heap[m]?) (hb : ∀ b, base ≤ b → b < wr.heap.size → w'.heap[b]? = wr.heap[b]?) : TrM F base m v w' q LL E S :=
 { h with
  own := by
   refine ⟨h.own.1, ?_⟩
   rcases h.own.2 with h1 | ⟨g, cap, cur, e, h2, h3, h4⟩
   ·exact .inl h1
   ·exact .inr ⟨g, cap, cur, e, h2, (hb g h2 (lt_of_block h3)).trans h3, h4⟩
  pr := h.pr.kf hk
  met := Met.kf h.met hm hk
  key := fun p hp => by
   obtain ⟨s, L, h1, h2, h3⟩ := h.key p hp
   exact ⟨s, L, h1, KL.kf h2 hk, h3⟩ }
theorem TrM.below {F : Nat → Prop} {base m : Nat} {v : Value} {wr w' : World} {q : List SlT} {LL : List (List Tr)} {E : List (Value × Value)} {S : Tr → Prop} (h : TrM F base m v wr q LL E S) (k : Below wr.heap.size wr w') : TrM F base m v w' q LL E S := h.kept (Kf.of_below k) (k.block m h.met.lt) fun b _ hl => k.block b hl
/-- the map is asked -/
theorem TrM.asked {F : Nat → Prop} {base m : Nat} {v : Value} {wr w' : World} {q : List SlT} {LL : List (List Tr)} {E E' : List (Value × Value)} {S : Tr → Prop} (h : TrM F base m v wr q LL E S) (g : wr.grownBy w' (some m)) (hM : Met F w' m E') (hE : ∀ p ∈ E', ∃ s L, p.1 = spV s.ka s.kn ∧ KL F w' s L ∧ ∀ k ∈ L, S k) : TrM F base m v w' q LL E' S := by
 have hk : Kf F wr w' := Kf.of_grown g h.nF
 exact { own := own_map h.met g h.own, pr := h.pr.kf hk, met := hM, key := hE, mb := h.mb, nF := h.nF, hF := h.hF }
theorem TrM.keys {F : Nat → Prop} {base m : Nat} {v : Value} {wr w' : World} {q : List SlT} {LL : List (List Tr)} {E E' : List (Value × Value)} {S : Tr → Prop} (h : TrM F base m v wr q LL E S) (g : wr.grownBy w' (some m)) (hE : E'.map Prod.fst = E.map Prod.fst) : ∀ p ∈ E', ∃ s L, p.1 = spV s.ka s.kn ∧ KL F w' s L ∧ ∀ k ∈ L, S k := fun p hp => by
 have h1 : p.1 ∈ E.map Prod.fst := by rw [← hE]; exact List.mem_map_of_mem hp
 obtain ⟨p', hp', e⟩ := List.mem_map.1 h1
 obtain ⟨s, L, h2, h3, h4⟩ := h.key p' hp'
 exact ⟨s, L, e ▸ h2, KL.kf h3 (Kf.of_grown g h.nF), h4⟩
/-- a list that was met has been seen, or will be -/
theorem TrM.known {F : Nat → Prop} {base m : Nat} {v : Value} {wr : World} {q : List SlT} {LL : List (List Tr)} {E : List (Value × Value)} {S : Tr → Prop} (h : TrM F base m v wr q LL E S) {F' : Nat → Prop} {ka : Option Addr} {kn : Nat} {ks : List Tr} (hk : RK F' wr (Rt F' wr) ka kn ks) (hm : spV ka kn ∈ E.map Prod.fst) : ∀ k ∈ ks, S k := by
 obtain ⟨p, hp, e⟩ := List.mem_map.1 hm
 obtain ⟨s, L, h1, h2, h3⟩ := h.key p hp
 rw [e] at h1
 simp only [spV, Value.agg.injEq, Array.mk.injEq, List.cons.injEq, Value.pointer.injEq, Value.int.injEq, true_and, and_true] at h1
 have e2 : s.kn = kn := by omega
 unfold KL at h2
 rw [← h1.1, e2] at h2
 rw [rk_only hk h2]
 exact h3
/-- a list more -/
theorem TrM.put {F : Nat → Prop} {base m : Nat} {v v2 : Value} {wr w2 : World} {q : List SlT} {LL : List (List Tr)} {E : List (Value × Value)} {S : Tr → Prop} (h : TrM F base m v wr q LL E S) {s : SlT} {L : List Tr} (hs : KL F wr s L) (h4 : w2.ownsRow base 26 1 v2 (q.length + 1) ((q ++ [s]).map SlT.val)) (g2 : wr.grownBy w2 v.ownBlock) : TrM F base m v2 w2 (q ++ [s]) (LL ++ [L]) E S := by
 have hob : ∀ b, v.ownBlock = some b → base ≤ b := fun b e => (h.own.lt b e).1
 have kf2 : Kf F wr w2 := ⟨g2.size, fun b hb hl => g2.block b hl fun e => by have := hob b e.symm; have := h.hF b hb; omega⟩
 have hkey : ∀ p ∈ E, ∃ s L, p.1 = spV s.ka s.kn ∧ KL F w2 s L ∧ ∀ k ∈ L, S k := fun p hp => by
  obtain ⟨s, L, h1, h2, h3⟩ := h.key p hp
  exact ⟨s, L, h1, KL.kf h2 kf2, h3⟩
 exact { own := by rw [List.length_append]; exact h4, pr := (h.pr.snoc hs).kf kf2, met := Met.kf h.met (g2.block m h.met.lt fun e => by have := hob m e.symm; have := h.mb; omega) kf2, key := hkey, mb := h.mb, nF := h.nF, hF := h.hF }
end Sx
end Go.Proofs.YtgpaajolcpgeaaaGreatDoor

namespace Go.Proofs.YtgpaajolcpgeaaaGreatDoor
open Go.RowKit
namespace Sx

abbrev Nme := ByteArray
/-- what is bound below a tree -/
def bdO (l : Lab) (bd : List Nme) : List Nme := if qnt l.k = true then l.nms ++ bd else bd
/-- is a name among these? -/
def inB (n : Nme) (bd : List Nme) : Bool := bd.any fun k => decide (k = n)
theorem inB_iff {n : Nme} {bd : List Nme} : inB n bd = false ↔ n ∉ bd := by
 unfold inB
 rw [List.any_eq_false]
 constructor
 ·intro h hn
  exact h n hn (by simp)
 ·intro h k hk e
  rw [decide_eq_true_eq] at e
  exact h (e ▸ hk)
/-- the free names in so many levels -/
def fvF : Nat → List Nme → Tr → List Nme
 | 0, _, _ => []
 | f + 1, bd, t => (if (lbO t).k = 2 ∧ inB (lbO t).nm bd = false then [(lbO t).nm] else []) ++ (ksO t).flatMap (fvF f (bdO (lbO t) bd))
/-- is a name free? -/
def Fv (bd : List Nme) (t : Tr) (n : Nme) : Prop := ∃ f, n ∈ fvF f bd t
theorem fv_iff {bd : List Nme} {t : Tr} {n : Nme} : Fv bd t n ↔ ((lbO t).k = 2 ∧ n = (lbO t).nm ∧ n ∉ bd) ∨ ∃ u ∈ ksO t, Fv (bdO (lbO t) bd) u n := by
 constructor
 ·rintro ⟨f, h⟩
  cases f with
  | zero => cases h
  | succ f =>
   unfold fvF at h
   rcases List.mem_append.1 h with h | h
   ·left
    split at h
    ·rename_i hc
     rw [List.mem_singleton.1 h]
     exact ⟨hc.1, rfl, inB_iff.1 hc.2⟩
    ·cases h
   ·obtain ⟨u, hu, h⟩ := List.mem_flatMap.1 h
    exact .inr ⟨u, hu, f, h⟩
 ·rintro (⟨h1, rfl, h2⟩ | ⟨u, hu, f, h⟩)
  ·refine ⟨1, ?_⟩
   unfold fvF
   rw [if_pos ⟨h1, inB_iff.2 h2⟩]
   simp
  ·refine ⟨f + 1, ?_⟩
   unfold fvF
   exact List.mem_append_right _ (List.mem_flatMap.2 ⟨u, hu, h⟩)
theorem bdO_congr {l : Lab} {bd bd' : List Nme} (h : ∀ n, n ∈ bd ↔ n ∈ bd') (n : Nme) : n ∈ bdO l bd ↔ n ∈ bdO l bd' := by
 unfold bdO
 split
 ·rw [List.mem_append, List.mem_append, h]
 ·exact h n
theorem fvF_congr (f : Nat) : ∀ {bd bd' : List Nme} {t : Tr}, (∀ n, n ∈ bd ↔ n ∈ bd') → fvF f bd t = fvF f bd' t := by
 induction f with
 | zero => exact fun _ => rfl
 | succ f ih =>
  intro bd bd' t h
  unfold fvF
  rw [show inB (lbO t).nm bd = inB (lbO t).nm bd' by
   rcases hb : inB (lbO t).nm bd' with _ | _
   ·rw [inB_iff] at hb ⊢
    rw [h]
    exact hb
   ·rw [← Bool.not_eq_false, inB_iff] at hb ⊢
    rw [h]
    exact hb, show fvF f (bdO (lbO t) bd) = fvF f (bdO (lbO t) bd') from funext fun u => ih (bdO_congr h)]
theorem fv_congr {bd bd' : List Nme} {t : Tr} {n : Nme} (h : ∀ n, n ∈ bd ↔ n ∈ bd') : Fv bd t n ↔ Fv bd' t n :=
 ⟨fun ⟨f, k⟩ => ⟨f, fvF_congr f h ▸ k⟩, fun ⟨f, k⟩ => ⟨f, fvF_congr f h ▸ k⟩⟩
/-- free in a list -/
def FvL (bd : List Nme) (L : List Tr) (n : Nme) : Prop := ∃ u ∈ L, Fv bd u n
theorem fvL_congr {bd bd' : List Nme} {L : List Tr} {n : Nme} (h : ∀ n, n ∈ bd ↔ n ∈ bd') : FvL bd L n ↔ FvL bd' L n :=
 ⟨fun ⟨u, hu, k⟩ => ⟨u, hu, (fv_congr h).1 k⟩, fun ⟨u, hu, k⟩ => ⟨u, hu, (fv_congr h).2 k⟩⟩
theorem fvL_snoc {bd : List Nme} {L : List Tr} {u : Tr} {n : Nme} : FvL bd (L ++ [u]) n ↔ FvL bd L n ∨ Fv bd u n := by
 constructor
 ·rintro ⟨v, hv, h⟩
  rcases List.mem_append.1 hv with hv | hv
  ·exact .inl ⟨v, hv, h⟩
  ·exact .inr (List.mem_singleton.1 hv ▸ h)
 ·rintro (⟨v, hv, h⟩ | h)
  ·exact ⟨v, List.mem_append_left _ hv, h⟩
  ·exact ⟨u, List.mem_append_right _ (List.mem_singleton.2 rfl), h⟩
/-- how many names the quantifiers have, in so many levels -/
def ncF : Nat → Tr → Nat
 | 0, _ => 0
 | f + 1, t => (lbO t).nms.length + ((ksO t).map (ncF f)).sum
def ncL (f : Nat) (l : List Tr) : Nat := (l.map (ncF f)).sum
theorem ncF_succ (f : Nat) (t : Tr) : ncF (f + 1) t = (lbO t).nms.length + ncL f (ksO t) := rfl
theorem ncL_snoc (f : Nat) (l : List Tr) (t : Tr) : ncL f (l ++ [t]) = ncL f l + ncF f t := by simp [ncL]
theorem ncL_one (f : Nat) (t : Tr) : ncL f [t] = ncF f t := by simp [ncL]
end Sx
end Go.Proofs.YtgpaajolcpgeaaaGreatDoor
