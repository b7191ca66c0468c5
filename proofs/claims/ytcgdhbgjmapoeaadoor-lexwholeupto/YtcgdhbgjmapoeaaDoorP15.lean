/-
 Several texts in one: XU, LLexWhole.
-/
import Derived.Test.YtcgdhbgjmapoeaaDoorP14
import Derived.Test.YtcgdhbgjmapoeaaDoorP10
import Derived.Deep.QuietTactic
import Derived.BigQuiet
namespace Go.Proofs.YtcgdhbgjmapoeaaDoor
open Go.RowKit Go.Shelf

theorem lx_ahead {s : ByteArray} {a : Nat} {ts : List TD} {x : Int} {p : Nat} (h : Lx s a ts x p) (hx : x ≠ 0) : a ≤ p ∧ p < s.size ∧ ∀ t ∈ ts, t.at' + t.text.size ≤ p := by
 induction ts generalizing a with
 | nil =>
  rcases h.nil with ⟨_, rfl, _⟩ | ⟨k, h, hk, hn, rfl⟩
  ·exact absurd rfl hx
  ·exact ⟨h.1, hk, fun t ht => (by cases ht)⟩
 | cons t0 ts ih =>
  obtain ⟨k, h, hk, hw, hr⟩ := h.cons
  obtain ⟨h1, h2, h3⟩ := ih hr
  refine ⟨by have := h.1; omega, h2, fun t ht => ?_⟩
  rcases List.mem_cons.1 ht with rfl | ht
  ·rw [hw.1]; exact h1
  ·exact h3 t ht
theorem bt_pre {s : ByteArray} {p i : Nat} (hp : p ≤ s.size) (hi : i < p) : bt (s.extract 0 p) i = bt s i := by
 have := bt_extract s 0 p i hp (by omega)
 rwa [Nat.zero_add] at this
theorem size_pre {s : ByteArray} {p : Nat} (hp : p ≤ s.size) : (s.extract 0 p).size = p := by rw [ByteArray.size_extract]; omega
theorem wd_pre {s : ByteArray} {k p : Nat} {t : TD} (h : Wd s k t) (hk : k < s.size) (hp : p ≤ s.size) (hkp : k + t.text.size ≤ p) : Wd (s.extract 0 p) k t := by
 have hpos := wd_size h hk
 have hsz := size_pre hp
 obtain ⟨h1, h2, h3, h4⟩ := h
 have htx : t.text = (s.extract 0 p).extract k (k + t.text.size) := by
  conv => lhs; rw [h3]
  have e1 : (s.extract k (k + t.text.size)).size = t.text.size := size_mid h2
  have e2 : ((s.extract 0 p).extract k (k + t.text.size)).size = t.text.size := size_mid (by omega)
  refine ba_ext (by omega) fun i hi => ?_
  rw [e1] at hi
  rw [bt_mid' h2 hi, bt_mid' (by omega) hi, bt_pre hp (by omega)]
 have hb0 : bt (s.extract 0 p) k = bt s k := bt_pre hp (by omega)
 have hrow : RowAt s k t.text.size → RowAt (s.extract 0 p) k t.text.size := by
  intro hr
  refine ⟨by omega, fun j hj => ?_, fun hq => ?_⟩
  ·rw [bt_pre hp (by omega)]; exact hr.2.1 j hj
  ·rw [bt_pre hp (by omega)]; exact hr.2.2 (by omega)
 refine ⟨h1, by omega, htx, ?_⟩
 rw [hb0]
 rcases h4 with ⟨c1, r1, o1, k1, n1⟩ | ⟨c1, r1, k1, o1, n1⟩ | ⟨c1, d1, x1, o1, k1, n1⟩
 ·exact .inl ⟨c1, hrow r1, o1, k1, n1⟩
 ·exact .inr (.inl ⟨c1, hrow r1, k1, o1, n1⟩)
 ·refine .inr (.inr ⟨c1, d1, ?_, o1, k1, n1⟩)
  have hl : (sgOf (s.extract k s.size)).size = t.text.size := by rw [← x1]
  have hu0 : (s.extract k s.size).size = s.size - k := size_suffix
  have hu : ((s.extract 0 p).extract k (s.extract 0 p).size).size = p - k := by rw [size_suffix, hsz]
  have hbu : ∀ i, i < p - k → bt ((s.extract 0 p).extract k (s.extract 0 p).size) i = bt (s.extract k s.size) i := by
   intro i hi
   rw [bt_suffix (by omega), bt_suffix (by omega), bt_pre hp (by omega)]
  have e0 := sgOf_size (s := s.extract k s.size) (by omega)
  have e := sgOf_size (s := (s.extract 0 p).extract k (s.extract 0 p).size) (by omega)
  change _ = if twoB _ = true then 2 else _ at e0
  change _ = if twoB _ = true then 2 else _ at e
  have hm : (sgOf ((s.extract 0 p).extract k (s.extract 0 p).size)).size = t.text.size := by
   rw [← hl, e, e0, hbu 0 (by omega)]
   by_cases ht : twoB (s.extract k s.size) = true
   ·have h2' := twoB_iff.1 ht
    rw [if_pos ht] at e0
    rw [if_pos ht, if_pos (twoB_iff.2 ⟨by omega, by rw [hbu 0 (by omega)]; exact h2'.2.1, by rw [hbu 1 (by omega)]; exact h2'.2.2⟩)]
   ·rw [if_neg ht, if_neg (fun hq => ht ?_)]
    have h2' := twoB_iff.1 hq
    have h3' := h2'.1
    rw [hu] at h3'
    rw [hbu 0 (by omega), hbu 1 (by omega)] at h2'
    exact twoB_iff.2 ⟨by omega, h2'.2⟩
  have he := sgOf_eq (s := (s.extract 0 p).extract k (s.extract 0 p).size) (by omega)
  rw [hm, extract_suffix (by omega)] at he
  rw [he]; exact htx
theorem lx_pre {s : ByteArray} {a : Nat} {ts : List TD} {x : Int} {p : Nat} (h : Lx s a ts x p) (hx : x ≠ 0) : Lx (s.extract 0 p) a ts 0 0 := by
 have hq := lx_ahead h hx
 have hsz := size_pre (s := s) (p := p) (by omega)
 induction ts generalizing a with
 | nil =>
  rcases h.nil with ⟨_, rfl, _⟩ | ⟨k, h, hk, hn, rfl⟩
  ·exact absurd rfl hx
  ·refine .done ?_
   rw [hsz]
   refine ⟨h.1, by omega, fun j h1 h2 => ?_, fun h' => absurd h' (by omega)⟩
   rw [bt_pre (by omega) h2]
   exact h.2.2.1 j h1 h2
 | cons t ts ih =>
  obtain ⟨k, h, hk, hw, hr⟩ := h.cons
  have hq2 := lx_ahead hr hx
  have hpos := wd_size hw hk
  refine .word (k := k) ⟨h.1, by omega, fun j h1 h2 => ?_, fun h' => ?_⟩ (by omega) (wd_pre hw hk (by omega) (by omega)) (ih hr hq2)
  ·rw [bt_pre (by omega) (by omega)]
   exact h.2.2.1 j h1 h2
  ·rw [bt_pre (by omega) (by omega)]
   exact h.2.2.2 hk
end Go.Proofs.YtcgdhbgjmapoeaaDoor

namespace Go.Proofs.YtcgdhbgjmapoeaaDoor
open Go.RowKit Go.Shelf

theorem lx_cons {s : ByteArray} {a : Nat} {t : TD} {ts : List TD} {x : Int} {p : Nat} (h : Lx s a (t :: ts) x p) : BlankEnd s a t.at' ∧ t.at' < s.size ∧ Wd s t.at' t ∧ Lx s (t.at' + t.text.size) ts x p := by
 obtain ⟨k, h, hk, hw, hr⟩ := h.cons
 have e := hw.1
 rw [← e] at h hk hw hr
 exact ⟨h, hk, hw, hr⟩
theorem lx_nil {s : ByteArray} {a p : Nat} (h : Lx s a [] 0 p) : BlankEnd s a s.size := by
 rcases h.nil with ⟨h, _, _⟩ | ⟨k, h, hk, hn, _⟩
 ·exact h
 ·have := nw_ne hn; omega

theorem lxs_pre {s : ByteArray} {ts : List TD} {x : Int} {p : Nat} (h : Lxs s ts x p) (hx : x ≠ 0) : p ≤ s.size ∧ Lxs (s.extract 0 p) ts 0 0 := by
 unfold Lxs at h
 split at h
 ·obtain ⟨rfl, _, rfl⟩ := h
  have hz := size_pre (s := s) (p := 0) (by omega)
  refine ⟨by omega, ?_⟩
  unfold Lxs
  rw [if_neg (by omega)]
  refine Lx.done ?_
  rw [hz]
  exact ⟨Nat.le_refl _, by omega, fun j h1 h2 => absurd h2 (by omega), fun h => absurd h (by omega)⟩
 ·have hq := lx_ahead h hx
  have hz := size_pre (s := s) (p := p) (by omega)
  refine ⟨by omega, ?_⟩
  unfold Lxs
  rw [if_neg (by omega)]
  exact lx_pre h hx

set_option maxRecDepth 100000 in
set_option maxHeartbeats 6400000 in
theorem lexWhole_walk {s : ByteArray} {w : World} (hs : s.size ≤ 1048576) (hS : Sgn w) :
  Calls Tryd.prog 7 #[.string s] w fun e w' => e = .returned (.bool true) ∧ Below w.heap.size w w' := by
 go_enter Tryd.func7, Tryd.ntmps7
 go_wp2_with fail
 refine (tokens_u s w (by omega) hS).mono ?_
 rintro e w1 ⟨xs, xa, xn, xc, x, p, hx, rfl, xrow, xmg, -, b1⟩
 have k1 := below_alloc w1 (.cells #[.int .i64 x, .int .i64 p] 25)
 have n1 := heap_alloc_new w1 (.cells #[.int .i64 x, .int .i64 p] 25)
 have kb1 := grow_step k1 b1
 obtain ⟨xa', xc', e1⟩ := own_slice2 xrow
 simp only [Value.slice.injEq] at e1
 obtain ⟨rfl, rfl, rfl⟩ := e1
 have xlen := tokRes_len hx
 by_cases hx0 : x = 0
 ·subst hx0
  have HX : Hid (Lx s 0 (xs.map TM.d) 0 0) := by
   rcases hx with ⟨_, _, h⟩ | ⟨h, _⟩
   ·unfold Lxs at h
    split at h
    ·exact absurd h.2.1 (by decide)
    ·exact h
   ·exact absurd rfl h
  have xrow2 := owns_later xrow k1
  clear hx xmg xrow k1 b1
  generalize hn : xs.length = n at *
  replace hn := hide hn
  go_wp2_with fail
  generalize w1.alloc (.cells #[.int .i64 0, .int .i64 p] 25) = w2 at *
  go_loopw [9, 10] (fun at' i wr => ∃ (k a : Nat), k ≤ n + 1 ∧ a ≤ s.size ∧ i = .int .i64 k ∧ at' = .int .i64 a ∧ Hid (k ≤ n → Lx s a ((xs.map TM.d).drop k) 0 0) ∧ Below w2.heap.size w2 wr) (fun _ i _ => n + 1 - (intOf i).toNat)
  case atStart => exact ⟨0, 0, by omega, by omega, rfl, rfl, fun _ => HX, Below.refl _ _⟩
  case round =>
   obtain ⟨k, a, hk, ha, rfl, rfl, HL, hB⟩ := hrel
   clear HX
   by_cases hkn : k < n
   ·have hkl : k < xs.length := by rw [hn.out]; exact hkn
    obtain ⟨g, cap, ev, hgb, hgl, hc1, hc2, hcell⟩ := own_cells (xs := xs) (by rw [hn.out]; exact xrow2) (by omega)
    rw [hn.out] at ev hc1
    simp only [Value.slice.injEq] at ev
    obtain ⟨rfl, -, rfl⟩ := ev
    have hd : (xs.map TM.d).drop k = xs[k].d :: (xs.map TM.d).drop (k + 1) := by
     rw [List.drop_eq_getElem_cons (by rw [List.length_map]; exact hkl), List.getElem_map]
    have hc := HL.out (by omega)
    rw [hd] at hc
    obtain ⟨hbe, hts, hwd, hrest⟩ := lx_cons hc
    have hpos := wd_size hwd hts
    have hwl := hwd.2.1
    have HTX := hide hwd.2.2.1
    have HBE := hide hbe.2.2.1
    have hle := hbe.1
    have HR := hide hrest
    have ct : wr.cell? ⟨g, k * 5 + 1, none⟩ = some (.string xs[k].d.text) := (hB.cell (p := ⟨g, k * 5 + 1, none⟩) hgl).trans (hcell k 1 hkl (by decide))
    have ca : wr.cell? ⟨g, k * 5 + 4, none⟩ = some (.int .i64 xs[k].d.at') := (hB.cell (p := ⟨g, k * 5 + 4, none⟩) hgl).trans (hcell k 4 hkl (by decide))
    have hgw : g < wr.heap.size := World.block_lt_of_cell? wr ⟨g, k * 5 + 1, none⟩ ct
    clear hbe hwd hrest hc hcell hd HL
    generalize xs[k].d.text = tx at *
    generalize xs[k].d.at' = ta at *
    go_wp2_with fail
    go_loop [9] (fun i => ∃ b : Nat, a ≤ b ∧ b ≤ ta ∧ i = .int .i64 b) (fun i => ta - (intOf i).toNat)
    case atStart => exact ⟨a, Nat.le_refl _, hle, rfl⟩
    case round =>
     obtain ⟨b, hb1, hb2, rfl⟩ := hrel
     by_cases hbt : b < ta
     ·have hbs : b < s.size := by omega
      have hcs := cls_zero.1 (HBE.out b hb1 hbt)
      rw [bt_eq s b hbs] at hcs
      rcases hcs with hq | hq | hq | hq
      all_goals (
       go_wp2_with fail
       exact ⟨⟨b + 1, by omega, by omega, by go_num⟩, by simp [intOf]; omega⟩)
     ·obtain rfl : b = ta := by omega
      have hne := ne_empty hpos
      have hsl := slice_kn (s := s) (k := b) (n := tx.size) hwl
      rw [← HTX.out] at hsl
      have hee : (tx.toList == tx.toList) = true := by simp
      have hwr : IntKind.i64.wrap ((b : Int) + tx.size) = b + tx.size := by rw [IntKind.wrap_i64]; omega
      have hwle : (b : Int) + tx.size ≤ s.size := by omega
      go_wp2_with fail
      go_quiet (fail)
      go_wp2_with fail
      go_roundw
      case rel => exact ⟨k + 1, b + tx.size, by omega, by omega, by go_num, by go_num, fun _ => HR.out, hB.trans (Go.Proofs.YtcgdhbgjmapoeaaDoor.below_drewN _ _ _)⟩
      case measure => simp [intOf]; omega
   ·by_cases hkn1 : k = n
    ·subst hkn1
     have hd : (xs.map TM.d).drop k = [] := List.drop_eq_nil_of_le (by rw [List.length_map, hn.out]; exact Nat.le_refl _)
     have hc := HL.out (Nat.le_refl _)
     rw [hd] at hc
     have hbe := lx_nil hc
     have HBE := hide hbe.2.2.1
     clear hbe hc hd HL
     go_wp2_with fail
     go_loop [9] (fun i => ∃ b : Nat, a ≤ b ∧ b ≤ s.size ∧ i = .int .i64 b) (fun i => s.size - (intOf i).toNat)
     case atStart => exact ⟨a, Nat.le_refl _, ha, rfl⟩
     case round =>
      obtain ⟨b, hb1, hb2, rfl⟩ := hrel
      by_cases hbt : b < s.size
      ·have hcs := cls_zero.1 (HBE.out b hb1 hbt)
       rw [bt_eq s b hbt] at hcs
       rcases hcs with hq | hq | hq | hq
       all_goals (
        go_wp2_with fail
        exact ⟨⟨b + 1, by omega, by omega, by go_num⟩, by simp [intOf]; omega⟩)
      ·obtain rfl : b = s.size := by omega
       go_wp2_with fail
       exact ⟨⟨k + 1, s.size, by omega, by omega, by go_num, rfl, fun h => absurd h (by omega), hB⟩, by simp [intOf]⟩
    ·obtain rfl : k = n + 1 := by omega
     go_wp2_with fail
     have kB := grow_step hB kb1
     refine (known3_any _ (hS.below kB)).mono ?_
     rintro e w3 ⟨rfl, b3⟩
     go_wp2_with fail
     go_ret
     exact ⟨rfl, grow_step b3 kB⟩
 ·rcases hx with ⟨h, _⟩ | ⟨-, rfl, ts, hx⟩
  ·exact absurd h hx0
  obtain ⟨hp, hpre⟩ := lxs_pre hx hx0
  clear xmg xlen xrow
  go_wp2_with fail
  refine (tokens_u (s.extract 0 p) _ (by rw [size_pre hp]; omega) (hS.below kb1)).mono ?_
  rintro e w2 ⟨ys, ya, yn, yc, y, q, hy, rfl, yrow, -, -, b2⟩
  have hy' : y = 0 ∧ ys.map TM.d = ts := by
   rcases hy with ⟨rfl, _, h⟩ | ⟨h0, _, us, h⟩
   ·exact ⟨rfl, (lxs_unique h hpre).1⟩
   ·exact absurd (lxs_unique h hpre).2.1 h0
  obtain ⟨rfl, hyt⟩ := hy'
  obtain ⟨ya', yc', e2⟩ := own_slice2 yrow
  simp only [Value.slice.injEq] at e2
  obtain ⟨rfl, rfl, rfl⟩ := e2
  have ylen := tokRes_len hy
  rw [size_pre hp] at ylen
  have k2 := below_alloc w2 (.cells #[.int .i64 0, .int .i64 q] 25)
  have n2 := heap_alloc_new w2 (.cells #[.int .i64 0, .int .i64 q] 25)
  have kb2 := grow_step k2 (grow_step b2 kb1)
  have yrow2 := owns_later yrow k2
  clear hy hpre yrow
  go_wp2_with fail
  refine (over_any s (-1) _ (by omega) (by decide) (by decide) (by decide) (hS.below kb2)).mono ?_
  rintro e w3 ⟨zs, v, rfl, zrow, -, b3, hz⟩
  have hzt : zs.map TM.d = ts := by
   rcases hz with ⟨_, x', p', h⟩ | ⟨h, _⟩
   ·exact (lxs_unique h hx).1
   ·omega
  have hlen : zs.length = ys.length := by
   have := congrArg List.length (hzt.trans hyt.symm)
   simpa using this
  have HM := hide (hzt.trans hyt.symm)
  obtain ⟨za, zc, rfl⟩ := own_slice2 zrow
  have hw2 : w2.heap.size < (w2.alloc (.cells #[.int .i64 0, .int .i64 q] 25)).heap.size := (Array.getElem?_eq_some_iff.1 n2).1
  have n3 := (b3.block _ hw2).trans n2
  have c3 : w3.cell? ⟨w2.heap.size, 0, none⟩ = some (.int .i64 0) := by
   unfold World.cell?
   rw [n3]
   rfl
  have yrow3 := owns_later yrow2 b3
  have kb3 := grow_step b3 kb2
  clear hz hx hzt hyt ts n1 n2 k2 b2 kb2 kb1 k1 b1 yrow2
  go_wp2_with fail
  go_loopw [8] (fun i wr => ∃ k q : Nat, k ≤ zs.length ∧ i = .int .i64 k ∧ wr = w3.drewN q) (fun i _ => zs.length - (intOf i).toNat)
  case atStart => exact ⟨0, 0, by omega, rfl, rfl⟩
  case round =>
   obtain ⟨k, q0, hk, rfl, rfl⟩ := hrel
   by_cases hkn : k < zs.length
   ·have hky : k < ys.length := by omega
    obtain ⟨g, cap, ev, hgb, hgl, hc1, hc2, hcell⟩ := own_cells yrow3 (by omega)
    simp only [Value.slice.injEq] at ev
    obtain ⟨rfl, -, rfl⟩ := ev
    obtain ⟨f, cap', ev, hfb, hfl, hd1, hd2, hcellf⟩ := own_cells zrow (by omega)
    rw [hlen] at ev hd1
    simp only [Value.slice.injEq] at ev
    obtain ⟨rfl, -, rfl⟩ := ev
    have he : zs[k].d = ys[k].d := by
     have h1 : (zs.map TM.d)[k]? = (ys.map TM.d)[k]? := by rw [HM.out]
     rw [List.getElem?_map, List.getElem?_map, List.getElem?_eq_getElem hkn, List.getElem?_eq_getElem hky] at h1
     exact Option.some.inj h1
    have yt : w3.cell? ⟨g, k * 5 + 1, none⟩ = some (.string ys[k].d.text) := hcell k 1 hky (by decide)
    have ya : w3.cell? ⟨g, k * 5 + 4, none⟩ = some (.int .i64 ys[k].d.at') := hcell k 4 hky (by decide)
    have zt : w3.cell? ⟨f, k * 5 + 1, none⟩ = some (.string ys[k].d.text) := (hcellf k 1 hkn (by decide)).trans (by show some (Value.string zs[k].d.text) = _; rw [he])
    have zA : w3.cell? ⟨f, k * 5 + 4, none⟩ = some (.int .i64 ys[k].d.at') := (hcellf k 4 hkn (by decide)).trans (by show some (Value.int .i64 zs[k].d.at') = _; rw [he])
    clear hcell hcellf he
    generalize ys[k].d.text = tx at *
    generalize ys[k].d.at' = ta at *
    have hee : (tx.toList == tx.toList) = true := by simp
    go_wp2_with fail
    go_quiet (fail)
    go_wp2_with fail
    go_roundw
    case rel => exact ⟨k + 1, q0 + nq, by omega, by go_num, rfl⟩
    case measure => simp [intOf]; omega
   ·obtain rfl : k = zs.length := by omega
    go_wp2_with fail
    refine (known3_any _ (hS.below (grow_drewN kb3 q0))).mono ?_
    rintro e w4 ⟨rfl, b4⟩
    go_wp2_with fail
    go_ret
    exact ⟨rfl, grow_step b4 (grow_drewN kb3 q0)⟩
end Go.Proofs.YtcgdhbgjmapoeaaDoor
