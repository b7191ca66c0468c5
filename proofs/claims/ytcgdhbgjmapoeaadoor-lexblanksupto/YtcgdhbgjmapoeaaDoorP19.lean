/-
 The walk of the law LexBlanks.
-/
import Derived.Test.YtcgdhbgjmapoeaaDoorP16
import Derived.Test.YtcgdhbgjmapoeaaDoorP18
import Derived.Deep.RegionHeld3
namespace Go.Proofs.YtcgdhbgjmapoeaaDoor
open Go.RowKit Go.Shelf

theorem cell_S8 {wr w' : World} {g g' : Nat} {j : Nat} {v0 v1 v2 v3 u0 u1 u2 u3 : Value} (h0 : wr.cell? ⟨g, j, none⟩ = some v0) (h1 : wr.cell? ⟨g, j + 1, none⟩ = some v1) (h2 : wr.cell? ⟨g, j + 2, none⟩ = some v2) (h3 : wr.cell? ⟨g, j + 3, none⟩ = some v3)
  (k0 : wr.cell? ⟨g', j, none⟩ = some u0) (k1 : wr.cell? ⟨g', j + 1, none⟩ = some u1) (k2 : wr.cell? ⟨g', j + 2, none⟩ = some u2) (k3 : wr.cell? ⟨g', j + 3, none⟩ = some u3) (hg : g < wr.heap.size) (hg' : g' < wr.heap.size) (k : Below wr.heap.size wr w') :
  w'.cell? ⟨g, j, none⟩ = some v0 ∧ w'.cell? ⟨g, j + 1, none⟩ = some v1 ∧ w'.cell? ⟨g, j + 2, none⟩ = some v2 ∧ w'.cell? ⟨g, j + 3, none⟩ = some v3 ∧ w'.cell? ⟨g', j, none⟩ = some u0 ∧ w'.cell? ⟨g', j + 1, none⟩ = some u1 ∧ w'.cell? ⟨g', j + 2, none⟩ = some u2 ∧ w'.cell? ⟨g', j + 3, none⟩ = some u3 ∧ Below wr.heap.size wr w' :=
 ⟨(k.cell (p := ⟨g, j, none⟩) hg).trans h0, (k.cell (p := ⟨g, j + 1, none⟩) hg).trans h1, (k.cell (p := ⟨g, j + 2, none⟩) hg).trans h2, (k.cell (p := ⟨g, j + 3, none⟩) hg).trans h3, (k.cell (p := ⟨g', j, none⟩) hg').trans k0, (k.cell (p := ⟨g', j + 1, none⟩) hg').trans k1, (k.cell (p := ⟨g', j + 2, none⟩) hg').trans k2, (k.cell (p := ⟨g', j + 3, none⟩) hg').trans k3, k⟩
theorem sameInt_S {a1 a2 : Option Addr} {l c1 c2 : Nat} {zs : List Int} {wr w : World} (h1 : Rd wr a1 l c1 zs) (h2 : Rd wr a2 l c2 zs) (k : Below wr.heap.size wr w) :
  Calls Tryd.prog 22 #[.agg #[.bool false, .slice a1 l c1], .agg #[.bool false, .slice a2 l c2]] w fun e w' => e = .returned (.bool true) ∧ Below w.heap.size w w' := sameInt_t (h1.below k) (h2.below k)
theorem sameW_at {zs xs : List TM} {j : Nat} (h : SameW (zs.map TM.d) (xs.map TM.d)) (hz : j < zs.length) (hx : j < xs.length) : zs[j].d.kind = xs[j].d.kind ∧ zs[j].d.text = xs[j].d.text ∧ zs[j].d.num = xs[j].d.num := by
 unfold SameW at h
 have e := congrArg (fun l => l[j]?) h
 simp [hz, hx] at e
 exact e
theorem cell_S {wr w' : World} {g j : Nat} {v : Value} (h : wr.cell? ⟨g, j, none⟩ = some v) (hg : g < wr.heap.size) (k : Below wr.heap.size wr w') : w'.cell? ⟨g, j, none⟩ = some v ∧ Below wr.heap.size wr w' := ⟨(k.cell (p := ⟨g, j, none⟩) hg).trans h, k⟩
theorem at_S {wr w : World} {ga : Option Addr} {gl gc pb : Nat} {i : Int} (h0 : 0 ≤ i) (h1 : i ≤ 1099511627776) (hg : IntsR wr ga gl gc) (hp : wr.cell? ⟨pb, 0, none⟩ = some (.slice ga gl gc)) (k : Below wr.heap.size wr w) :
  Calls Tryd.prog 20 #[.int .i64 i, .pointer (some ⟨pb, 0, none⟩)] w fun e w' => ∃ g, blankS g ∧ g.size ≤ 3 ∧ e = .returned (.string g) ∧ Below w.heap.size w w' :=
 at_n i h0 h1 (hg.below k) ((k.cell (p := ⟨pb, 0, none⟩) (World.block_lt_of_cell? wr ⟨pb, 0, none⟩ hp)).trans hp)
set_option maxRecDepth 100000 in
set_option maxHeartbeats 6400000 in
theorem lexBlanks_walk {s : ByteArray} {w : World} {ga : Option Addr} {gl gc : Nat} (hs : s.size ≤ 1048576) (hg : IntsR w ga gl gc) (hS : Sgn w) :
  Calls Tryd.prog 6 #[.string s, .slice ga gl gc] w fun e w' => e = .returned (.bool true) ∧ Below w.heap.size w w' := by
 go_enter Tryd.func6, Tryd.ntmps6
 go_wp2_with fail
 have b0 := below_alloc w (.cells #[.slice ga gl gc] 48)
 have g0 := heap_alloc_new w (.cells #[.slice ga gl gc] 48)
 generalize w.alloc (.cells #[.slice ga gl gc] 48) = wb at *
 generalize hpb : w.heap.size = pb at g0
 replace hpb := hide hpb
 replace hg := hg.below b0
 replace hS := hS.below b0
 refine (tokens_u s wb (by omega) hS).mono ?_
 rintro e w1 ⟨xs, xa, xn, xc, x, p, hx, rfl, xrow, xmg, -, b1⟩
 have k1 := below_alloc w1 (.cells #[.int .i64 x, .int .i64 p] 25)
 have kb1 := grow_step k1 b1
 by_cases hx0 : x = 0
 ·subst hx0
  have xlen := tokRes_len hx
  go_wp2_with fail
  refine (known3_any _ (hS.below kb1)).mono ?_
  rintro e w2 ⟨rfl, b2⟩
  have k12 := grow_step b2 k1
  have kb2 := grow_step b2 kb1
  have HW : Hid (∀ x ∈ xs, Wd s x.d.at' x.d ∧ x.d.at' < s.size) := by
   show ∀ _, _
   intro x hxm
   rcases hx with ⟨_, _, h⟩ | ⟨h, _⟩
   ·unfold Lxs at h
    split at h
    ·exact absurd h.2.1 (by decide)
    ·exact lx_wd h x.d (List.mem_map_of_mem hxm)
   ·exact absurd rfl h
  obtain ⟨xa', xc', e1⟩ := own_slice2 xrow
  simp only [Value.slice.injEq] at e1
  obtain ⟨rfl, rfl, rfl⟩ := e1
  have xrow2 := owns_later xrow k12
  have XM2 : Hid (∀ x ∈ xs, Mg wb w2 x) := fun x hx => (xmg x hx).later k12
  have hg2 := hg.below kb2
  have g2 : w2.cell? ⟨pb, 0, none⟩ = some (.slice ga gl gc) := cell_of_row w2 _ 0 _ _ (0, 0) (block_later g0 kb2)
  have hpl : pb < w2.heap.size := World.block_lt_of_cell? w2 ⟨pb, 0, none⟩ g2
  have hS2 := hS.below kb2
  have kw2 := grow_step kb2 b0
  clear hx xmg xrow k1 kb1 b1 b2 k12 kb2 hg hS g0 b0
  go_wp2_with fail
  refine (at_n 0 (by decide) (by decide) hg2 g2).mono ?_
  rintro e w3 ⟨G, hG, hG3, rfl, b3⟩
  have HL0 : Hid (Ldr G [] ∧ SameW [] ((xs.take 0).map TM.d)) := ⟨ldr_start hG, rfl⟩
  generalize hn : xs.length = n at *
  replace hn := hide hn
  go_wp2_with fail
  go_loopw [8, 9] (fun sv i wr => ∃ (k : Nat) (T : ByteArray) (pre : List TD), k ≤ n ∧ i = .int .i64 k ∧ sv = .string T ∧ Hid (Ldr T pre ∧ SameW pre ((xs.take k).map TM.d)) ∧ T.size ≤ 3 + k * 1048579 ∧ Below w2.heap.size w2 wr) (fun _ i _ => n - (intOf i).toNat)
  case atStart => exact ⟨0, G, [], Nat.zero_le _, rfl, rfl, HL0, by omega, b3⟩
  case round =>
   obtain ⟨k, T, pre, hk, rfl, rfl, HL, hT, hB⟩ := hrel
   clear HL0 hG hG3
   by_cases hkn : k < n
   ·have hkl : k < xs.length := by rw [hn.out]; exact hkn
    obtain ⟨g, cap, ev, hgb, hgl, hc1, hc2, hcell⟩ := own_cells (xs := xs) (by rw [hn.out]; exact xrow2) (by omega)
    rw [hn.out] at ev hc1
    simp only [Value.slice.injEq] at ev
    obtain ⟨rfl, -, rfl⟩ := ev
    have ct : wr.cell? ⟨g, k * 5 + 1, none⟩ = some (.string xs[k].d.text) := (hB.cell (p := ⟨g, k * 5 + 1, none⟩) hgl).trans (hcell k 1 hkl (by decide))
    have hwd := HW.out xs[k] (List.getElem_mem hkl)
    have htz : xs[k].d.text.size ≤ 1048576 := by have := hwd.1.2.1; omega
    have HT2 : ∀ g : ByteArray, blankS g → Hid (Ldr (T ++ xs[k].d.text ++ g) (pre ++ [⟨xs[k].d.kind, xs[k].d.text, xs[k].d.num, T.size⟩]) ∧ SameW (pre ++ [⟨xs[k].d.kind, xs[k].d.text, xs[k].d.num, T.size⟩]) ((xs.take (k + 1)).map TM.d)) := by
     intro g hg
     refine ⟨ldr_step HL.out.1 hwd.1 hwd.2 hg, ?_⟩
     have h2 := HL.out.2
     unfold SameW at h2 ⊢
     rw [List.take_succ_eq_append_getElem hkl, List.map_append, List.map_append, List.map_append, h2]
     rfl
    replace HT2 := hide HT2
    clear hwd hcell HL
    generalize xs[k].d.text = tx at *
    generalize xs[k].d.kind = tk at *
    generalize xs[k].d.num = tn at *
    have hgr := hg2.below hB
    have g2r : wr.cell? ⟨pb, 0, none⟩ = some (.slice ga gl gc) := (hB.cell (p := ⟨pb, 0, none⟩) hpl).trans g2
    have hgw : g < wr.heap.size := World.block_lt_of_cell? wr ⟨g, k * 5 + 1, none⟩ ct
    have hwk : IntKind.i64.wrap ((k : Int) + 1) = (k : Int) + 1 := by rw [IntKind.wrap_i64]; omega
    have ha1 : ∀ u : World, (Op.stringOp .add T tx).run Tryd.prog u = .ok (.string (T ++ tx)) u := fun u => run_string_add_sum _ _ _ (by omega)
    have ha2 : ∀ (G : ByteArray) (u : World), G.size ≤ 3 → (Op.stringOp .add (T ++ tx) G).run Tryd.prog u = .ok (.string (T ++ tx ++ G)) u := fun G u h => run_string_add_sum _ _ _ (by rw [size_app]; omega)
    have hk0 : (0 : Int) ≤ (k : Int) := by omega
    have hk1 : (k : Int) < (n : Int) := by omega
    go_wp2_with fail
    go_region_held3 (fun w' => w'.cell? ⟨g, k * 5 + 1, none⟩ = some (.string tx) ∧ Below wr.heap.size wr w')
     ((refine cell_S ct hgw ?_; (repeat' (first | with_reducible exact Below.refl _ _ | with_reducible assumption | (go_split_ands; with_reducible assumption) | with_reducible refine grow_step (by with_reducible assumption) ?_ | with_reducible refine grow_drew ?_ | with_reducible refine grow_alloc ?_ _ | with_reducible refine grow_drewN ?_ _))))
     ((go_at_call 20; with_reducible refine (at_S (i := (k : Int) + 1) (by omega) (by omega) hgr g2r (by (repeat' (first | with_reducible exact Below.refl _ _ | with_reducible assumption | (go_split_ands; with_reducible assumption) | with_reducible refine grow_step (by with_reducible assumption) ?_ | with_reducible refine grow_drew ?_ | with_reducible refine grow_alloc ?_ _ | with_reducible refine grow_drewN ?_ _)))).mono ?_; rintro e w' ⟨G, hG, hG3, rfl, hg⟩))
    all_goals (
     have kf : Below wr.heap.size wr w' := by (repeat' (first | with_reducible exact Below.refl _ _ | with_reducible assumption | (go_split_ands; with_reducible assumption) | with_reducible refine grow_step (by with_reducible assumption) ?_ | with_reducible refine grow_drew ?_ | with_reducible refine grow_alloc ?_ _ | with_reducible refine grow_drewN ?_ _))
     go_wp2_with fail
     exact ⟨⟨k + 1, T ++ tx ++ G, _, by omega, by go_num, rfl, HT2.out G hG, by rw [size_app, size_app]; omega, grow_step kf hB⟩, by simp [intOf]; omega⟩)
   ·obtain rfl : k = n := by omega
    clear g2 hpl hg2 HW
    have hST := HL.out.2
    rw [List.take_of_length_le (by rw [hn.out]; exact Nat.le_refl _)] at hST
    have HLd := hide HL.out.1
    replace hST := hide hST
    clear HL
    by_cases hbig : 4096 < T.size
    ·go_wp2_with fail
     go_ret
     exact ⟨rfl, grow_step hB kw2⟩
    ·have hend := ldr_end HLd.out (by omega)
     replace hend := hide hend
     go_wp2_with fail
     refine (tokens_u T wr (by omega) (hS2.below hB)).mono ?_
     rintro e w4 ⟨zs, za, zn, zc, y, q, hz, rfl, zrow, zmg, -, b4⟩
     have hu : zs.map TM.d = pre ∧ y = 0 ∧ q = 0 := by
      rcases hz with ⟨rfl, rfl, h⟩ | ⟨h0, _, ts, h⟩
      ·exact ⟨(lxs_unique h hend.out).1, rfl, rfl⟩
      ·exact absurd (lxs_unique h hend.out).2.1 h0
     obtain ⟨hzp, rfl, rfl⟩ := hu
     have HS : Hid (SameW (zs.map TM.d) (xs.map TM.d)) := by rw [hzp]; exact hST.out
     have zlen : zs.length = k := by
      have := congrArg List.length HS.out
      unfold SameW at this
      simp only [List.length_map] at this
      rw [this, hn.out]
     clear hz hzp hST HLd hend
     obtain ⟨za', zc', e1⟩ := own_slice2 zrow
     simp only [Value.slice.injEq] at e1
     obtain ⟨rfl, rfl, rfl⟩ := e1
     have k4 := below_alloc w4 (.cells #[.int .i64 0, .int .i64 0] 25)
     have kr4 := grow_step k4 b4
     have k24 := grow_step kr4 hB
     have xrow4 := owns_later xrow2 k24
     have zrow4 := owns_later zrow k4
     have XM4 : Hid (∀ x ∈ xs, Mg wb (w4.alloc (.cells #[.int .i64 0, .int .i64 0] 25)) x) := fun x hx => (XM2.out x hx).later k24
     have ZM4 : Hid (∀ x ∈ zs, Mg wr (w4.alloc (.cells #[.int .i64 0, .int .i64 0] 25)) x) := fun x hx => (zmg x hx).later k4
     have kw4 := grow_step k24 kw2
     replace zlen := hide zlen
     rw [zlen.out] at zrow4 ⊢
     clear zmg zrow XM2 xrow2
     go_wp2_with fail
     generalize w4.alloc (.cells #[.int .i64 0, .int .i64 0] 25) = w5 at *
     go_loopw [12] (fun i wv => ∃ j : Nat, j ≤ k ∧ i = .int .i64 j ∧ Below w5.heap.size w5 wv) (fun i _ => k - (intOf i).toNat)
     case atStart => exact ⟨0, Nat.zero_le _, rfl, Below.refl _ _⟩
     case round =>
      obtain ⟨j, hj, rfl, hBv⟩ := hrel
      by_cases hjk : j < k
      ·have hjx : j < xs.length := by rw [hn.out]; exact hjk
       have hjz : j < zs.length := by rw [zlen.out]; exact hjk
       obtain ⟨gx, capx, ex, hxb, hxl, hx1, hx2, xcell⟩ := own_cells (xs := xs) (by rw [hn.out]; exact xrow4) (by omega)
       obtain ⟨gz, capz, ez, hzb, hzl, hz1, hz2, zcell⟩ := own_cells (xs := zs) (by rw [zlen.out]; exact zrow4) (by omega)
       rw [hn.out] at ex hx1
       rw [zlen.out] at ez hz1
       simp only [Value.slice.injEq] at ex ez
       obtain ⟨rfl, -, rfl⟩ := ex
       obtain ⟨rfl, -, rfl⟩ := ez
       obtain ⟨s1, s2, s3⟩ := sameW_at HS.out hjz hjx
       have mz := ZM4.out zs[j] (List.getElem_mem hjz)
       have mx := XM4.out xs[j] (List.getElem_mem hjx)
       have rz := mz.1.rd.below hBv
       have rx := mx.1.rd.below hBv
       have hzz : zs[j].zs = xs[j].zs := canon_inj mz.2.1 mx.2.1 (by rw [mz.2.2, mx.2.2, s3])
       have hll : zs[j].len = xs[j].len := by rw [← rz.1, ← rx.1, hzz]
       rw [hzz, hll] at rz
       have q0 : wr.cell? ⟨gz, j * 5, none⟩ = some (.int .i64 zs[j].d.kind) := (hBv.cell (p := ⟨gz, j * 5, none⟩) hzl).trans (zcell j 0 hjz (by decide))
       have q1 : wr.cell? ⟨gz, j * 5 + 1, none⟩ = some (.string zs[j].d.text) := (hBv.cell (p := ⟨gz, j * 5 + 1, none⟩) hzl).trans (zcell j 1 hjz (by decide))
       have q2 : wr.cell? ⟨gz, j * 5 + 2, none⟩ = some (.bool false) := (hBv.cell (p := ⟨gz, j * 5 + 2, none⟩) hzl).trans (zcell j 2 hjz (by decide))
       have q3 : wr.cell? ⟨gz, j * 5 + 3, none⟩ = some (.slice zs[j].ad zs[j].len zs[j].cap) := (hBv.cell (p := ⟨gz, j * 5 + 3, none⟩) hzl).trans (zcell j 3 hjz (by decide))
       have p0 : wr.cell? ⟨gx, j * 5, none⟩ = some (.int .i64 xs[j].d.kind) := (hBv.cell (p := ⟨gx, j * 5, none⟩) hxl).trans (xcell j 0 hjx (by decide))
       have p1 : wr.cell? ⟨gx, j * 5 + 1, none⟩ = some (.string xs[j].d.text) := (hBv.cell (p := ⟨gx, j * 5 + 1, none⟩) hxl).trans (xcell j 1 hjx (by decide))
       have p2 : wr.cell? ⟨gx, j * 5 + 2, none⟩ = some (.bool false) := (hBv.cell (p := ⟨gx, j * 5 + 2, none⟩) hxl).trans (xcell j 2 hjx (by decide))
       have p3 : wr.cell? ⟨gx, j * 5 + 3, none⟩ = some (.slice xs[j].ad xs[j].len xs[j].cap) := (hBv.cell (p := ⟨gx, j * 5 + 3, none⟩) hxl).trans (xcell j 3 hjx (by decide))
       rw [s1] at q0
       rw [s2] at q1
       rw [hll] at q3
       clear mz mx hzz hll s1 s2 s3 xcell zcell
       generalize xs[j].d.kind = tk at *
       generalize xs[j].d.text = tx at *
       generalize xs[j].zs = tz at *
       generalize xs[j].len = tl at *
       generalize xs[j].ad = a1 at *
       generalize xs[j].cap = c1 at *
       generalize zs[j].ad = a2 at *
       generalize zs[j].cap = c2 at *
       have hgx : gx < wr.heap.size := World.block_lt_of_cell? wr ⟨gx, j * 5, none⟩ p0
       have hgz : gz < wr.heap.size := World.block_lt_of_cell? wr ⟨gz, j * 5, none⟩ q0
       have hee : (tx.toList == tx.toList) = true := by simp
       have hj0 : (0 : Int) ≤ (j : Int) := by omega
       have hj1 : (j : Int) < (k : Int) := by omega
       go_wp2_with fail
       go_region_held3 (fun w' => w'.cell? ⟨gz, j * 5, none⟩ = some (.int .i64 tk) ∧ w'.cell? ⟨gz, j * 5 + 1, none⟩ = some (.string tx) ∧ w'.cell? ⟨gz, j * 5 + 2, none⟩ = some (.bool false) ∧ w'.cell? ⟨gz, j * 5 + 3, none⟩ = some (.slice a2 tl c2) ∧ w'.cell? ⟨gx, j * 5, none⟩ = some (.int .i64 tk) ∧ w'.cell? ⟨gx, j * 5 + 1, none⟩ = some (.string tx) ∧ w'.cell? ⟨gx, j * 5 + 2, none⟩ = some (.bool false) ∧ w'.cell? ⟨gx, j * 5 + 3, none⟩ = some (.slice a1 tl c1) ∧ Below wr.heap.size wr w')
        ((refine cell_S8 q0 q1 q2 q3 p0 p1 p2 p3 hgz hgx ?_; (repeat' (first | with_reducible exact Below.refl _ _ | with_reducible assumption | (go_split_ands; with_reducible assumption) | with_reducible refine grow_step (by with_reducible assumption) ?_ | with_reducible refine grow_drew ?_ | with_reducible refine grow_alloc ?_ _ | with_reducible refine grow_drewN ?_ _))))
        ((go_at_call 22; with_reducible refine (sameInt_S rz rx (by (repeat' (first | with_reducible exact Below.refl _ _ | with_reducible assumption | (go_split_ands; with_reducible assumption) | with_reducible refine grow_step (by with_reducible assumption) ?_ | with_reducible refine grow_drew ?_ | with_reducible refine grow_alloc ?_ _ | with_reducible refine grow_drewN ?_ _)))).mono ?_; rintro e w' ⟨rfl, hg⟩))
       all_goals (
        have kf : Below wr.heap.size wr w' := by (repeat' (first | with_reducible exact Below.refl _ _ | with_reducible assumption | (go_split_ands; with_reducible assumption) | with_reducible refine grow_step (by with_reducible assumption) ?_ | with_reducible refine grow_drew ?_ | with_reducible refine grow_alloc ?_ _ | with_reducible refine grow_drewN ?_ _))
        go_wp2_with fail
        exact ⟨⟨j + 1, by omega, by go_num, grow_step kf hBv⟩, by simp [intOf]; omega⟩)
      ·obtain rfl : j = k := by omega
       go_wp2_with fail
       go_ret
       exact ⟨rfl, grow_step hBv kw4⟩
 ·have hxb : (x == 0) = false := by rw [beq_eq_false_iff_ne]; exact hx0
  clear hx xmg xrow
  go_wp2_with fail
  refine (known3_any _ (hS.below kb1)).mono ?_
  rintro e w2 ⟨rfl, b2⟩
  go_wp2_with fail
  go_ret
  exact ⟨rfl, grow_step b2 (grow_step kb1 b0)⟩
end Go.Proofs.YtcgdhbgjmapoeaaDoor
