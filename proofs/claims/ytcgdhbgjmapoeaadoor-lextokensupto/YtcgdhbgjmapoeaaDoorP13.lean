/-
 Several texts in one: XE, XF, XG, XH, XI.
-/
import Derived.Test.YtcgdhbgjmapoeaaDoorP12
import Derived.Test.YtcgdhbgjmapoeaaDoorP09
import Derived.Test.YtcgdhbgjmapoeaaDoorP06
namespace Go.Proofs.YtcgdhbgjmapoeaaDoor
open Go.RowKit Go.Shelf

set_option maxRecDepth 100000 in
set_option maxHeartbeats 3200000 in
theorem refsign_n (s : ByteArray) (w : World) (h0 : 0 < s.size) (hs : s.size ≤ 1099511627776) :
  Calls Tryd.prog 27 #[.string s] w fun e w' => e = .returned (.int .i64 (sgOf s).size) ∧ w = w' := by
 have HS := hide (sgOf_size h0)
 have hb := bt_lt s 0
 have he := bt_eq s 0 h0
 by_cases h2 : 2 ≤ s.size
 ·rw [pfx2_big h2, pfx2_big h2, pfx2_big h2] at HS
  cases c1 : ((s.extract 0 2).toList == [60, 61])
  case true =>
   have HF : Hid ((sgOf s).size = 2) := by show _ = _; rw [HS.out, c1]; rfl
   clear HS he hb
   go_enter Tryd.func27, Tryd.ntmps27
   go_wp2
   go_ret
   exact ⟨ret_int (by rw [HF.out]; rfl), rfl⟩
  cases c2 : ((s.extract 0 2).toList == [62, 61])
  case true =>
   have HF : Hid ((sgOf s).size = 2) := by show _ = _; rw [HS.out, c1, c2]; rfl
   clear HS he hb
   go_enter Tryd.func27, Tryd.ntmps27
   go_wp2
   go_ret
   exact ⟨ret_int (by rw [HF.out]; rfl), rfl⟩
  cases c3 : ((s.extract 0 2).toList == [33, 61])
  case true =>
   have HF : Hid ((sgOf s).size = 2) := by show _ = _; rw [HS.out, c1, c2, c3]; rfl
   clear HS he hb
   go_enter Tryd.func27, Tryd.ntmps27
   go_wp2
   go_ret
   exact ⟨ret_int (by rw [HF.out]; rfl), rfl⟩
  rw [c1, c2, c3] at HS
  have HF : Hid ((sgOf s).size = if sg1 (bt s 0) then 1 else 0) := HS
  rw [he] at HF
  clear HS he hb
  go_enter Tryd.func27, Tryd.ntmps27
  go_wp2
  all_goals (
   go_ret
   refine ⟨ret_int ?_, rfl⟩
   simp only [beq_iff_eq, beq_eq_false_iff_ne, ne_eq] at *
   first | (refine sg1_yes HF.out ?_; omega) | (refine sg1_no HF.out ?_ ?_ ?_ ?_ ?_ ?_ ?_ ?_ ?_ <;> assumption))
 ·rw [pfx2_small (by omega), pfx2_small (by omega), pfx2_small (by omega)] at HS
  have HF : Hid ((sgOf s).size = if sg1 (bt s 0) then 1 else 0) := HS
  rw [he] at HF
  clear HS he hb
  go_enter Tryd.func27, Tryd.ntmps27
  go_wp2
  all_goals (
   go_ret
   refine ⟨ret_int ?_, rfl⟩
   simp only [beq_iff_eq, beq_eq_false_iff_ne, ne_eq] at *
   first | (refine sg1_yes HF.out ?_; omega) | (refine sg1_no HF.out ?_ ?_ ?_ ?_ ?_ ?_ ?_ ?_ ?_ <;> assumption))
end Go.Proofs.YtcgdhbgjmapoeaaDoor

namespace Go.Proofs.YtcgdhbgjmapoeaaDoor
open Go.RowKit Go.Shelf

/-- a block of five cells -/
def T5 (ty : TypeId) (w : World) (b : Nat) (v0 v1 v2 v3 v4 : Value) : Prop := w.heap[b]? = some (.cells #[v0, v1, v2, v3, v4] ty (0, 0))
section
variable {ty : TypeId} {w w' : World} {b : Nat} {v0 v1 v2 v3 v4 : Value}
theorem T5.c0 (h : T5 ty w b v0 v1 v2 v3 v4) : w.cell? ⟨b, 0, none⟩ = some v0 := cell_of_row w b 0 _ _ (0, 0) h
theorem T5.c1 (h : T5 ty w b v0 v1 v2 v3 v4) : w.cell? ⟨b, 1, none⟩ = some v1 := cell_of_row w b 1 _ _ (0, 0) h
theorem T5.c2 (h : T5 ty w b v0 v1 v2 v3 v4) : w.cell? ⟨b, 2, none⟩ = some v2 := cell_of_row w b 2 _ _ (0, 0) h
theorem T5.c3 (h : T5 ty w b v0 v1 v2 v3 v4) : w.cell? ⟨b, 3, none⟩ = some v3 := cell_of_row w b 3 _ _ (0, 0) h
theorem T5.c4 (h : T5 ty w b v0 v1 v2 v3 v4) : w.cell? ⟨b, 4, none⟩ = some v4 := cell_of_row w b 4 _ _ (0, 0) h
theorem T5.f (h : T5 ty w b v0 v1 v2 v3 v4) (i : Nat) : w.frozen? ⟨b, i, none⟩ = false := frozen_of_row w b i _ _ h
theorem T5.lt (h : T5 ty w b v0 v1 v2 v3 v4) : b < w.heap.size := (Array.getElem?_eq_some_iff.1 h).1
theorem T5.below (h : T5 ty w b v0 v1 v2 v3 v4) (hb : Below w.heap.size w w') : T5 ty w' b v0 v1 v2 v3 v4 := (hb.block b h.lt).trans h
theorem t5_new (ty : TypeId) (w : World) (v0 v1 v2 v3 v4 : Value) : T5 ty (w.alloc (.cells #[v0, v1, v2, v3, v4] ty)) w.heap.size v0 v1 v2 v3 v4 := heap_alloc_new w _
theorem T5.fin (h : T5 ty w b v0 v1 v2 v3 v4) (u0 u1 u2 u3 u4 : Value) : T5 ty (tokSet w b u0 u1 u2 u3 u4) b u0 u1 u2 u3 u4 := by
 have y0 := heap_setCell_same w b 0 _ ty u0 h
 have y1 := heap_setCell_same _ b 1 _ ty u1 y0
 have y2 := heap_setCell_same _ b 2 _ ty u2 y1
 have y3 := heap_setCell_same _ b 3 _ ty u3 y2
 have y4 := heap_setCell_same _ b 4 _ ty u4 y3
 unfold T5 tokSet
 simpa using y4
end

theorem ten_letter {s : ByteArray} (h : tenB s = true) : cls (bt s 0) = 2 := by
 unfold tenB at h
 simp only [Bool.or_eq_true, beq_iff_eq] at h
 rcases h with ((((((((h | h) | h) | h) | h) | h) | h) | h) | h) | h <;> (rw [bt_of_toList h]; decide)

def RowK (s : ByteArray) (k num : Int) : Prop := (cls (bt s 0) = 1 ∧ okText s ∧ k = 1 ∧ num = (dr s 0 s.size : Int)) ∨ (cls (bt s 0) ≠ 1 ∧ ((tenB s = true ∧ k = 3) ∨ (tenB s = false ∧ nmB s = true ∧ k = 2)) ∧ num = 0)
def RowE (s : ByteArray) (x : Int) : Prop := (cls (bt s 0) = 1 ∧ ¬ okText s ∧ x = 12) ∨ (cls (bt s 0) ≠ 1 ∧ tenB s = false ∧ nmB s = false ∧ x = 30)
theorem bt_mid {s : ByteArray} {a n i : Nat} (h : a + n ≤ s.size) (hi : i < n) : bt (s.extract a (a + n)) i = bt s (a + i) := bt_extract s a (a + n) i h (by omega)
theorem cls_in {s : ByteArray} {a n : Nat} (hr : RowAt s a n) (h0 : 0 < n) : cls (bt s a) = 1 ∨ cls (bt s a) = 2 ∨ cls (bt s a) = 3 := by
 have := hr.2.1 0 h0
 rw [Nat.add_zero] at this
 unfold inRow at this
 rwa [decide_eq_true_iff] at this
theorem row_wd {s : ByteArray} {a n : Nat} {k num : Int} (hr : RowAt s a n) (h0 : 0 < n) (h : RowK (s.extract a (a + n)) k num) : Wd s a ⟨k, s.extract a (a + n), num, a⟩ := by
 have hz := size_mid hr.1
 have hb : bt (s.extract a (a + n)) 0 = bt s a := bt_mid hr.1 h0
 have hcl := cls_in hr h0
 refine ⟨rfl, by show a + (s.extract a (a + n)).size ≤ s.size; rw [hz]; exact hr.1, by show s.extract a (a + n) = s.extract a (a + (s.extract a (a + n)).size); rw [hz], ?_⟩
 rcases h with ⟨hc, hok, hk, hn⟩ | ⟨hc, hk, hn⟩
 ·rw [hb] at hc
  exact .inl ⟨hc, by show RowAt s a (s.extract a (a + n)).size; rw [hz]; exact hr, hok, hk, hn⟩
 ·rw [hb] at hc
  have h2 : cls (bt s a) = 2 := by
   rcases hk with ⟨ht, _⟩ | ⟨_, hn, _⟩
   ·rw [← hb]; exact ten_letter ht
   ·rw [← hb]; exact (nmB_iff.1 hn).2.1
  have hkd : k = kd (s.extract a (a + n)) := by
   rcases hk with ⟨ht, hk⟩ | ⟨_, hn, hk⟩
   ·rw [hk]; unfold kd; rw [if_pos ht]
   ·rw [hk, (nmB_iff.1 hn).2.2.2]
  refine .inr (.inl ⟨h2, by show RowAt s a (s.extract a (a + n)).size; rw [hz]; exact hr, hkd, ?_, hn⟩)
  show k ≠ 0
  rcases hk with ⟨_, hk⟩ | ⟨_, _, hk⟩ <;> omega
theorem row_nw {s : ByteArray} {a n : Nat} {x : Int} (hr : RowAt s a n) (h0 : 0 < n) (ha : a < s.size) (h : RowE (s.extract a (a + n)) x) : Nw s a x := by
 have hz := size_mid hr.1
 have hb : bt (s.extract a (a + n)) 0 = bt s a := bt_mid hr.1 h0
 have hcl := cls_in hr h0
 rcases h with ⟨hc, hok, hx⟩ | ⟨hc, ht, hn, hx⟩
 ·rw [hb] at hc
  exact .inl ⟨hc, ⟨n, hr, hok⟩, hx⟩
 ·rw [hb] at hc
  by_cases h2 : cls (bt s a) = 2
  ·refine .inr (.inl ⟨h2, ⟨n, hr, ?_⟩, hx⟩)
   unfold kd
   rw [if_neg (by rw [ht]; decide)]
   by_cases h24 : 24 < (s.extract a (a + n)).size
   ·rw [if_pos h24]
   ·exfalso
    rw [Bool.eq_false_iff] at hn
    refine hn (nmB_iff.2 ⟨by omega, by rw [hb]; exact h2, ⟨Nat.le_refl _, fun j hj => ?_, fun h => absurd h (by omega)⟩, kd_name ht (by omega)⟩)
    rw [hz] at hj
    rw [bt_mid hr.1 hj]
    exact hr.2.1 j hj
  ·refine .inr (.inr ⟨hc, h2, ?_, hx⟩)
   have h3 : cls (bt s a) = 3 := by omega
   have h95 : bt s a = 95 := by
    have h4 := hr.2.1 0 h0
    rw [Nat.add_zero, inRow_eq] at h4
    unfold letB digB at h4
    rw [decide_eq_false h2, decide_eq_false hc, Bool.false_or, Bool.false_or, decide_eq_true_iff] at h4
    omega
   have hs0 : 0 < (s.extract a s.size).size := by rw [size_suffix]; omega
   have hbs : bt (s.extract a s.size) 0 = 95 := by rw [bt_suffix (by omega)]; exact h95
   rw [sgOf_size hs0, hbs]
   have p2 : ∀ c : UInt8, c ≠ 95 → pfx (s.extract a s.size) ⟨#[c, 61]⟩ = false := by
    intro c hc
    rw [Bool.eq_false_iff]
    intro hp
    have := (pfx_iff.1 hp).2 0 (by show 0 < 2; decide)
    rw [hbs] at this
    have e : bt ⟨#[c, 61]⟩ 0 = c.toNat := rfl
    rw [e] at this
    exact hc (UInt8.toNat_inj.1 this.symm)
   rw [p2 60 (by decide), p2 62 (by decide), p2 33 (by decide)]
   rfl

set_option maxRecDepth 100000 in
set_option maxHeartbeats 3200000 in
theorem refrow_any (s : ByteArray) (w : World) (h0 : 0 < s.size) (hs : s.size ≤ 1099511627) :
  Calls Tryd.prog 26 #[.string s] w fun e w' =>
   (∃ k num ad len cap zs, e = .returned (.tuple #[.agg #[.int .i64 k, .string s, .bool false, .slice ad len cap, .int .i64 0], .int .i64 0]) ∧ RowK s k num ∧ Out w w' ad len cap zs ∧ Canon zs ∧ val zs = num) ∨
   (∃ x, e = .returned (.tuple #[.agg #[.int .i64 0, .string ⟨#[]⟩, .bool false, .slice none 0 0, .int .i64 0], .int .i64 x]) ∧ RowE s x ∧ Below w.heap.size w w') := by
 have hb := bt_lt s 0
 have he := bt_eq s 0 h0
 go_enter Tryd.func26, Tryd.ntmps26
 go_wp2_with fail
 have y := t5_new 46 w (.int .i64 0) (.string ⟨#[]⟩) (.bool false) (.slice none 0 0) (.int .i64 0)
 have b0 := below_alloc w (.cells #[.int .i64 0, .string ⟨#[]⟩, .bool false, .slice none 0 0, .int .i64 0] 46)
 generalize w.alloc (.cells #[.int .i64 0, .string ⟨#[]⟩, .bool false, .slice none 0 0, .int .i64 0] 46) = wb at *
 have hlt := y.lt
 generalize hr : w.heap.size = r at y hlt
 have hle : w.heap.size ≤ r := by rw [hr]; exact Nat.le_refl _
 replace hr := hide hr
 refine (digit_n ((s[0]'h0).toNat : Int) (by omega) (by omega) wb).mono ?_
 rintro e w' ⟨rfl, rfl⟩
 rw [← he]
 clear he hb
 by_cases h1 : cls (bt s 0) = 1
 ·have H1 := hide h1
  rw [show digB (bt s 0) = true from decide_eq_true h1]
  clear h1
  by_cases hok : okText s
  ·go_wp2_with fail
   refine (refparse_yes s wb (by omega) hok).mono ?_
   rintro e w1 ⟨ad, len, cap, zs, rfl, ho, hcn, hv, hl⟩
   have y' := y.below ho.1
   have y0 := y'.c0
   have y1 := y'.c1
   have y2 := y'.c2
   have y3 := y'.c3
   have y4 := y'.c4
   have z0 := y'.f 0
   have z1 := y'.f 1
   have z2 := y'.f 2
   have z3 := y'.f 3
   have z4 := y'.f 4
   go_wp2
   refine bodyPost_ret (results_ct' rfl _ _ r 46 _ (0, 0) _ rfl (y'.fin _ _ _ _ _) Tryd.underlying46 rfl (by kernel_rfl)) rfl ?_
   exact .inl ⟨1, _, ad, len, cap, zs, by simp, .inl ⟨H1.out, hok, rfl, rfl⟩, out_tok b0 hle hlt _ _ _ _ _ ho, hcn, hv⟩
  ·go_wp2_with fail
   refine (refparse_no s wb (by omega) hok).mono ?_
   rintro e w1 ⟨rfl, rfl⟩
   have y' := y.below (Below.refl _ _)
   have y0 := y'.c0
   have y1 := y'.c1
   have y2 := y'.c2
   have y3 := y'.c3
   have y4 := y'.c4
   have z0 := y'.f 0
   have z1 := y'.f 1
   have z2 := y'.f 2
   have z3 := y'.f 3
   have z4 := y'.f 4
   go_wp2
   refine bodyPost_ret (results_ct' rfl _ _ r 46 _ (0, 0) _ rfl (y'.fin _ _ _ _ _) Tryd.underlying46 rfl (by kernel_rfl)) rfl ?_
   exact .inr ⟨12, by simp, .inl ⟨H1.out, hok, rfl⟩, below_tok b0 hle (Below.refl _ _) _ _ _ _ _⟩
 ·have H1 := hide h1
  rw [show digB (bt s 0) = false from decide_eq_false h1]
  clear h1
  go_wp2_with fail
  refine (refIs_n s wb).mono ?_
  rintro e w' ⟨rfl, rfl⟩
  cases ht : tenB s
  ·have HT := hide ht
   clear ht
   go_wp2_with fail
   refine (refIsName_n s wb (by omega)).mono ?_
   rintro e w' ⟨rfl, rfl⟩
   cases hn : nmB s
   ·have HN := hide hn
    clear hn
    have y' := y.below (Below.refl _ _)
    have y0 := y'.c0
    have y1 := y'.c1
    have y2 := y'.c2
    have y3 := y'.c3
    have y4 := y'.c4
    have z0 := y'.f 0
    have z1 := y'.f 1
    have z2 := y'.f 2
    have z3 := y'.f 3
    have z4 := y'.f 4
    go_wp2
    refine bodyPost_ret (results_ct' rfl _ _ r 46 _ (0, 0) _ rfl (y'.fin _ _ _ _ _) Tryd.underlying46 rfl (by kernel_rfl)) rfl ?_
    exact .inr ⟨30, by simp, .inr ⟨H1.out, HT.out, HN.out, rfl⟩, below_tok b0 hle (Below.refl _ _) _ _ _ _ _⟩
   ·have HN := hide hn
    clear hn
    have y' := y.below (Below.refl _ _)
    have y0 := y'.c0
    have y1 := y'.c1
    have y2 := y'.c2
    have y3 := y'.c3
    have y4 := y'.c4
    have z0 := y'.f 0
    have z1 := y'.f 1
    have z2 := y'.f 2
    have z3 := y'.f 3
    have z4 := y'.f 4
    go_wp2
    refine bodyPost_ret (results_ct' rfl _ _ r 46 _ (0, 0) _ rfl (y'.fin _ _ _ _ _) Tryd.underlying46 rfl (by kernel_rfl)) rfl ?_
    exact .inl ⟨2, 0, none, 0, 0, [], by simp, .inr ⟨H1.out, .inr ⟨HT.out, HN.out, rfl⟩, rfl⟩, out_non (below_tok b0 hle (Below.refl _ _) _ _ _ _ _), canon_nil, rfl⟩
  ·have HT := hide ht
   clear ht
   have y' := y.below (Below.refl _ _)
   have y0 := y'.c0
   have y1 := y'.c1
   have y2 := y'.c2
   have y3 := y'.c3
   have y4 := y'.c4
   have z0 := y'.f 0
   have z1 := y'.f 1
   have z2 := y'.f 2
   have z3 := y'.f 3
   have z4 := y'.f 4
   go_wp2
   refine bodyPost_ret (results_ct' rfl _ _ r 46 _ (0, 0) _ rfl (y'.fin _ _ _ _ _) Tryd.underlying46 rfl (by kernel_rfl)) rfl ?_
   exact .inl ⟨3, 0, none, 0, 0, [], by simp, .inr ⟨H1.out, .inl ⟨HT.out, rfl⟩, rfl⟩, out_non (below_tok b0 hle (Below.refl _ _) _ _ _ _ _), canon_nil, rfl⟩
end Go.Proofs.YtcgdhbgjmapoeaaDoor

namespace Go.Proofs.YtcgdhbgjmapoeaaDoor
open Go.RowKit Go.Shelf

theorem kt_grow {W w2 : World} {base : Nat} {e e' : TypeId} {size : Nat} {v : Value} {n : Nat} {xs : List Value} {tmp : Obj} (h : W.ownsRow base e size v n xs) (hg : (W.alloc tmp).grownBy w2 v.ownBlock) (hne : e' ≠ e) : KT e' W w2 := by
 intro b cs hb
 have hlt := (Array.getElem?_eq_some_iff.1 hb).1
 have hno := own_ne h hb (fun cs fr he => hne (Obj.cells.inj he).2.1)
 rw [hg.block b (by simp; omega) (fun e => hno e.symm), Below.heap_alloc W tmp b hlt]
 exact hb
theorem below_grow {W w2 : World} {base : Nat} {e : TypeId} {size : Nat} {v : Value} {n : Nat} {xs : List Value} {tmp : Obj} (h : W.ownsRow base e size v n xs) (hB : base ≤ W.heap.size) (hg : (W.alloc tmp).grownBy w2 v.ownBlock) : Below base W w2 :=
 ((Below.refl base W).alloc hB tmp).trans ((Below.refl base _).grown hg (by simp; omega) (fun k e => (h.lt k e).1))
theorem infoRTok : (Tryd.prog.info? 46).map (fun i => (i.zero, i.size, i.bytes)) = some (some (.agg #[.int .i64 0, .string ⟨#[]⟩, .bool false, .slice none 0 0, .int .i64 0]), 5, 64) := by kernel_rfl
theorem v5_newt (ty : TypeId) (W : World) (x : TM) : ∀ j u, (V5 x)[j]? = some u → (W.alloc (.cells (V5 x).toArray ty)).cell? ((⟨W.heap.size, 0, none⟩ : Addr).add j) = some u := by
 intro j u h
 rw [Addr.add_lit, cell_of_row _ _ (0 + j) _ _ (0, 0) (heap_alloc_new W _)]
 simpa using h
theorem results_tc {P : Program} {fn : Func} {t1 p2 : Tmp} {ty2 : TypeId} (h : fn.results = #[.tmp t1, .cell p2 ty2]) (tmps : Array Value) (w : World) (g2 : Nat) (t2 : TypeId) (cs2 : Array Value) (fr2 : Nat × Nat) (d2 : TypeDesc)
  (hp2 : tmps.getD p2 undef = .pointer (some ⟨g2, 0, none⟩)) (hg2 : w.heap[g2]? = some (.cells cs2 t2 fr2))
  (hu2 : P.underlying ty2 = some d2) (hd2 : (match d2 with | .struct _ | .array _ _ => true | _ => false) = true) (hi2 : (P.info? ty2).map (·.size) = some cs2.size) :
  (results fn tmps).run P w = .ok (.tuple #[tmps.getD t1 undef, .agg cs2]) w := by
 have hp2' : tmps[p2]?.getD undef = .pointer (some ⟨g2, 0, none⟩) := by simpa using hp2
 simp [results, h, hp2', asAddr, run_loadVar_row w g2 t2 ty2 cs2 fr2 d2 hg2 hu2 hd2 hi2]
theorem mis_set {W : World} {b : Nat} {t : TypeId} {p q : Value} (h : W.heap[b]? = some (.cells #[p, q] t (0, 0))) (x y : Value) : ((W.setCell ⟨b, 0, none⟩ x).setCell ⟨b, 1, none⟩ y).heap[b]? = some (.cells #[x, y] t (0, 0)) := by
 have y1 := heap_setCell_same _ _ 0 _ _ x h
 have y2 := heap_setCell_same _ _ 1 _ _ y y1
 simpa using y2
theorem kt_set {W : World} {b : Nat} {t e : TypeId} {cs : Array Value} (h : W.heap[b]? = some (.cells cs t (0, 0))) (hne : e ≠ t) (x y : Value) : KT e W ((W.setCell ⟨b, 0, none⟩ x).setCell ⟨b, 1, none⟩ y) := by
 intro k cs' hk
 have n1 : k ≠ b := by rintro rfl; rw [hk] at h; exact hne (Obj.cells.inj (Option.some.inj h)).2.1
 rw [Below.heap_setCell _ _ _ _ n1, Below.heap_setCell _ _ _ _ n1]
 exact hk

/-- what Parts holds -/
structure PtF (w : World) (v : Value) (xs : List TM) (W : World) : Prop where
 below : Below w.heap.size w W
 mis : W.heap[w.heap.size]? = some (.cells #[.int .i64 0, .int .i64 0] 25 (0, 0))
 row : W.ownsRow w.heap.size 46 5 v xs.length (xs.flatMap V5)
 mag : ∀ x ∈ xs, Mg w W x
theorem PtF.later {w : World} {v : Value} {xs : List TM} {W W' : World} (h : PtF w v xs W) (hb : Below W.heap.size W W') : PtF w v xs W' :=
 ⟨grow_step hb h.below, block_later h.mis hb, owns_later h.row hb, fun x hx => (h.mag x hx).later hb⟩
theorem PtF.append {w : World} {v v' : Value} {xs : List TM} {W w1 : World} {x : TM} {tmp : Obj} (h : PtF w v xs W) (hx : Mg w W x)
  (hown' : w1.ownsRow w.heap.size 46 5 v' (xs.length + 1) (xs.flatMap V5 ++ V5 x)) (hgrow : (W.alloc tmp).grownBy w1 v.ownBlock) : PtF w v' (xs ++ [x]) w1 := by
 have hB := h.below.trans (below_grow h.row h.below.size hgrow)
 refine ⟨hB, kt_grow h.row hgrow (by decide) _ _ h.mis, ?_, fun y hy => ?_⟩
 ·rw [List.length_append, List.flatMap_append]
  simpa using hown'
 ·refine mg_kt ?_ hB (kt_grow h.row hgrow (by decide))
  rcases List.mem_append.1 hy with hy | hy
  ·exact h.mag y hy
  ·rw [List.mem_singleton] at hy
   rw [hy]; exact hx
theorem PtF.over {w : World} {v : Value} {xs : List TM} {W : World} (h : PtF w v xs W) (x y : Value) :
  ((W.setCell ⟨w.heap.size, 0, none⟩ x).setCell ⟨w.heap.size, 1, none⟩ y).ownsRow w.heap.size 46 5 v xs.length (xs.flatMap V5) ∧ (∀ z ∈ xs, Mg w ((W.setCell ⟨w.heap.size, 0, none⟩ x).setCell ⟨w.heap.size, 1, none⟩ y) z) ∧ Below w.heap.size w ((W.setCell ⟨w.heap.size, 0, none⟩ x).setCell ⟨w.heap.size, 1, none⟩ y) := by
 have hB : Below w.heap.size w ((W.setCell ⟨w.heap.size, 0, none⟩ x).setCell ⟨w.heap.size, 1, none⟩ y) := (h.below.setCell (p := ⟨w.heap.size, 0, none⟩) (Nat.le_refl _) _).setCell (p := ⟨w.heap.size, 1, none⟩) (Nat.le_refl _) _
 exact ⟨own_kt h.row (kt_set h.mis (by decide) _ _), fun z hz => mg_kt (h.mag z hz) hB (kt_set h.mis (by decide) _ _), hB⟩
end Go.Proofs.YtcgdhbgjmapoeaaDoor

namespace Go.Proofs.YtcgdhbgjmapoeaaDoor
open Go.RowKit Go.Shelf

set_option maxRecDepth 100000 in
set_option maxHeartbeats 6400000 in
theorem refparts_any (s : ByteArray) (w : World) (hs : s.size ≤ 1099511627) :
  Calls Tryd.prog 14 #[.string s] w fun e w' => ∃ (xs : List TM) (v : Value) (x : Int) (p : Nat), Lxs s (xs.map TM.d) x p ∧ e = .returned (.tuple #[v, misV x p]) ∧ w'.ownsRow w.heap.size 46 5 v xs.length (xs.flatMap V5) ∧ (∀ x ∈ xs, Mg w w' x) ∧ Below w.heap.size w w' := by
 have hF : PtF w (.slice none 0 0) [] (w.alloc (.cells #[.int .i64 0, .int .i64 0] 25)) := ⟨below_alloc _ _, heap_alloc_new w _, World.ownsRow_nil _ _ _ _, fun x hx => by cases hx⟩
 by_cases hlong : 4096 < s.size
 ·have HL : Hid (Lxs s [] 40 0) := by
   show Lxs _ _ _ _
   unfold Lxs
   rw [if_pos hlong]
   exact ⟨rfl, rfl, rfl⟩
  clear hF
  go_enter Tryd.func14, Tryd.ntmps14
  go_wp2
  refine bodyPost_ret (results_tc rfl _ _ w.heap.size 25 _ (0, 0) _ rfl (heap_alloc_new w _) Tryd.underlying25 rfl (by kernel_rfl)) rfl ?_
  exact ⟨[], .slice none 0 0, 40, 0, HL.out, rfl, World.ownsRow_nil _ _ _ _, fun x hx => (by cases hx), below_alloc _ _⟩
 ·have HL : Hid (∀ ts x p, Lx s 0 ts x p → Lxs s ts x p) := by
   show ∀ _, _
   intro ts x p h
   unfold Lxs
   rw [if_neg hlong]
   exact h
  go_enter Tryd.func14, Tryd.ntmps14
  go_wp2_with fail
  generalize w.alloc (.cells #[.int .i64 0, .int .i64 0] 25) = wb at *
  go_loopw [4, 5] (fun o i wr => ∃ (k : Nat) (pre : List TM), k ≤ s.size ∧ pre.length ≤ k ∧ i = .int .i64 k ∧ Hid (∀ ts x p, Lx s k ts x p → Lx s 0 (pre.map TM.d ++ ts) x p) ∧ PtF w o pre wr) (fun _ i _ => s.size - (intOf i).toNat)
  case atStart => exact ⟨0, [], Nat.zero_le _, Nat.zero_le _, rfl, fun ts x p h => h, hF⟩
  case round =>
   obtain ⟨k, pre, hk, hpl, rfl, HX, h⟩ := hrel
   obtain ⟨oa, on, oc, rfl⟩ := own_slice h.row
   clear hF
   by_cases hkl : k < s.size
   ·have hb := bt_lt s k
    have he := bt_eq s k hkl
    by_cases hbl : cls (bt s k) = 0
    ·have HX2 : Hid (∀ ts x p, Lx s (k + 1) ts x p → Lx s 0 (pre.map TM.d ++ ts) x p) := fun ts x p hl => HX.out ts x p (lx_blank hbl hl)
     have hcs := cls_zero.1 hbl
     rw [he] at hcs
     clear hbl he hb
     rcases hcs with hc | hc | hc | hc
     all_goals (
      go_wp2_with fail
      exact ⟨⟨k + 1, pre, by omega, by omega, by go_num, HX2, h⟩, by simp [intOf]; omega⟩)
    ·have hnb : ¬ (((s[k]'hkl).toNat : Int) = 32 ∨ ((s[k]'hkl).toNat : Int) = 9 ∨ ((s[k]'hkl).toNat : Int) = 10 ∨ ((s[k]'hkl).toNat : Int) = 13) := by
      rw [← he]
      exact fun hq => hbl (cls_zero.2 hq)
     have e1 : (((s[k]'hkl).toNat : Int) == 32) = false := by rw [beq_eq_false_iff_ne]; omega
     have e2 : (((s[k]'hkl).toNat : Int) == 9) = false := by rw [beq_eq_false_iff_ne]; omega
     have e3 : (((s[k]'hkl).toNat : Int) == 10) = false := by rw [beq_eq_false_iff_ne]; omega
     have e4 : (((s[k]'hkl).toNat : Int) == 13) = false := by rw [beq_eq_false_iff_ne]; omega
     have HB : Hid (BlankEnd s k k) := ⟨Nat.le_refl _, hk, fun j h1 h2 => absurd h1 (by omega), fun _ => hbl⟩
     clear hnb hbl he hb
     go_wp2_with fail
     go_loop [7] (fun i => ∃ n : Nat, k + n ≤ s.size ∧ i = .int .i64 n ∧ Hid (∀ j, j < n → inRow (bt s (k + j)) = true)) (fun i => s.size - (intOf i).toNat)
     case atStart => exact ⟨0, by omega, rfl, fun j hj => absurd hj (by omega)⟩
     case round =>
      obtain ⟨n, hn, rfl, HJ⟩ := hrel
      have key : Hid (RowAt s k n) ∨ (k + n < s.size ∧ inRow (bt s (k + n)) = true) := by
       by_cases hlt : k + n < s.size
       ·cases hq : inRow (bt s (k + n))
        ·exact .inl ⟨hn, HJ.out, fun _ => hq⟩
        ·exact .inr ⟨hlt, rfl⟩
       ·exact .inl ⟨hn, HJ.out, fun hq => absurd hq hlt⟩
      rcases key with HR | ⟨hlt, hin⟩
      ·by_cases hlt : k + n < s.size
       ·have hq := HR.out.2.2 hlt
        have hb := bt_lt s (k + n)
        have he := bt_eq s (k + n) hlt
        clear HJ
        go_wp2_with fail
        refine (rowed_n ((s[k + n]'hlt).toNat : Int) (by omega) (by omega) wr).mono ?_
        rintro e w' ⟨rfl, rfl⟩
        rw [← he, hq]
        clear he hq hb
        by_cases hn0 : n = 0
        ·subst hn0
         have hcl : Hid (cls (bt s k) ≠ 1 ∧ cls (bt s k) ≠ 2) := by
          have hq := HR.out.2.2 (by omega)
          rw [Nat.add_zero] at hq
          unfold inRow at hq
          rw [decide_eq_false_iff_not] at hq
          exact ⟨fun e => hq (.inl e), fun e => hq (.inr (.inl e))⟩
         clear HR
         have hzs : (s.extract k s.size).size = s.size - k := size_suffix
         go_wp2_with fail
         refine (refsign_n (s.extract k s.size) wr (by omega) (by omega)).mono ?_
         rintro e w' ⟨rfl, rfl⟩
         have hsl := sgOf_le (s.extract k s.size)
         generalize hm : (sgOf (s.extract k s.size)).size = m at *
         by_cases hm0 : m = 0
         ·subst hm0
          have HX2 : Hid (Lxs s (pre.map TM.d) 30 k) := by
           have := HX.out [] 30 k (.bad HB.out hkl (.inr (.inr ⟨hcl.out.1, hcl.out.2, hm, rfl⟩)))
           rw [List.append_nil] at this
           exact HL.out _ _ _ this
          clear hm HX HL HB hcl
          have c0 := cell_of_row wr _ 0 _ _ (0, 0) h.mis
          have c1 := cell_of_row wr _ 1 _ _ (0, 0) h.mis
          have f0 := frozen_of_row wr _ 0 _ _ h.mis
          have f1 := frozen_of_row wr _ 1 _ _ h.mis
          have ho := h.over (.int .i64 30) (.int .i64 k)
          have hm := mis_set h.mis (.int .i64 30) (.int .i64 k)
          go_wp2_with fail
          refine bodyPost_ret (results_tc rfl _ _ w.heap.size 25 _ (0, 0) _ rfl hm Tryd.underlying25 rfl (by kernel_rfl)) rfl ?_
          exact ⟨_, _, 30, k, HX2.out, rfl, ho.1, ho.2.1, ho.2.2⟩
         ·have hmb : ((m : Int) == 0) = false := by rw [beq_eq_false_iff_ne]; omega
          have hge := sgOf_eq (s := s.extract k s.size) (by omega)
          rw [hm, extract_suffix (by omega)] at hge
          have hzt : (s.extract k (k + m)).size = m := size_mid (by omega)
          have HW : Hid (Wd s k ⟨4, s.extract k (k + m), 0, k⟩) := ⟨rfl, by show k + (s.extract k (k + m)).size ≤ s.size; omega, by show s.extract k (k + m) = s.extract k (k + (s.extract k (k + m)).size); rw [hzt], .inr (.inr ⟨hcl.out.1, hcl.out.2, hge.symm, by show 0 < (s.extract k (k + m)).size; omega, rfl, rfl⟩)⟩
          clear hge hm hcl
          have hM : Mg w wr ⟨⟨4, s.extract k (k + m), 0, k⟩, none, 0, 0, []⟩ := ⟨out_non h.below, canon_nil, rfl⟩
          obtain ⟨i0, hi, hz0, hz1, hz2⟩ := info_parts infoRTok
          have hsl := slice_kn (s := s) (k := k) (n := m) (by omega)
          go_wp2_with (at_builtin; refine wpList_append_own_at _ rfl _ _ 22 rfl w.heap.size 46 i0 _ 5 64 Tryd.underlying22 hi hz0 hz1 hz2 rfl (by decide) _ _ _ rfl (h.row.alloc _) ⟨wr.heap.size, 0, none⟩ 1 1 (V5 ⟨⟨4, s.extract k (k + m), 0, k⟩, none, 0, 0, []⟩) rfl rfl (v5_newt _ _ _) (v5_one _) (by unfold maxLen; omega) (by omega) (by have := h.below.size; simp; omega) ?_; intro v' w2 hown' hgrow _ _)
          have hT := h.append hM hown' hgrow
          have HX2 : Hid (∀ ts x p, Lx s (k + m) ts x p → Lx s 0 ((pre ++ [(⟨⟨4, s.extract k (k + m), 0, k⟩, none, 0, 0, []⟩ : TM)]).map TM.d ++ ts) x p) := by
           show ∀ _, _
           intro ts x p hl
           rw [List.map_append, List.append_assoc]
           exact HX.out _ _ _ (.word HB.out hkl HW.out (by show Lx s (k + (s.extract k (k + m)).size) ts x p; rw [hzt]; exact hl))
          exact ⟨⟨k + m, _, by omega, by rw [List.length_append]; simp; omega, by go_num, HX2, hT⟩, by simp [intOf]; omega⟩
        ·have hzt : (s.extract k (k + n)).size = n := size_mid (by omega)
         have hsl := slice_kn (s := s) (k := k) (n := n) (by omega)
         go_wp2_with fail
         refine (refrow_any (s.extract k (k + n)) wr (by omega) (by omega)).mono ?_
         rintro e w1 (⟨kk, num, ad, len, cap, zs, rfl, hK, ho, hcn, hv⟩ | ⟨x, rfl, hE, hb1⟩)
         ·have HW := hide (row_wd HR.out (by omega) hK)
          have h1 := (h.later ho.1).later (below_alloc w1 (.cells #[.int .i64 kk, .string (s.extract k (k + n)), .bool false, .slice ad len cap, .int .i64 k] 46))
          have hM : Mg w (w1.alloc (.cells #[.int .i64 kk, .string (s.extract k (k + n)), .bool false, .slice ad len cap, .int .i64 k] 46)) ⟨⟨kk, s.extract k (k + n), num, k⟩, ad, len, cap, zs⟩ := ⟨(ho.outer h.below).later (below_alloc _ _), hcn, hv⟩
          clear hK ho hcn hv HR
          obtain ⟨i0, hi, hz0, hz1, hz2⟩ := info_parts infoRTok
          go_wp2_with (at_builtin; refine wpList_append_own_at _ rfl _ _ 22 rfl w.heap.size 46 i0 _ 5 64 Tryd.underlying22 hi hz0 hz1 hz2 rfl (by decide) _ _ _ rfl (h1.row.alloc _) ⟨(w1.alloc (.cells #[.int .i64 kk, .string (s.extract k (k + n)), .bool false, .slice ad len cap, .int .i64 k] 46)).heap.size, 0, none⟩ 1 1 (V5 ⟨⟨kk, s.extract k (k + n), num, k⟩, ad, len, cap, zs⟩) (by simp; rfl) rfl (v5_newt _ _ _) (v5_one _) (by unfold maxLen; omega) (by omega) (by have := h1.below.size; simp at this ⊢; omega) ?_; intro v' w2 hown' hgrow _ _)
          have hT := h1.append hM hown' hgrow
          have HX2 : Hid (∀ ts x p, Lx s (k + n) ts x p → Lx s 0 ((pre ++ [(⟨⟨kk, s.extract k (k + n), num, k⟩, ad, len, cap, zs⟩ : TM)]).map TM.d ++ ts) x p) := by
           show ∀ _, _
           intro ts x p hl
           rw [List.map_append, List.append_assoc]
           exact HX.out _ _ _ (.word HB.out hkl HW.out (by show Lx s (k + (s.extract k (k + n)).size) ts x p; rw [hzt]; exact hl))
          exact ⟨⟨k + n, _, by omega, by rw [List.length_append]; simp; omega, by go_num, HX2, hT⟩, by simp [intOf]; omega⟩
         ·have hnw := row_nw HR.out (by omega) hkl hE
          have hx := nw_ne hnw
          have hxb : (x == 0) = false := by rw [beq_eq_false_iff_ne]; omega
          have HX2 : Hid (Lxs s (pre.map TM.d) x k) := by
           have := HX.out [] x k (.bad HB.out hkl hnw)
           rw [List.append_nil] at this
           exact HL.out _ _ _ this
          have h1 := (h.later hb1).later (below_alloc w1 (.cells #[.int .i64 0, .string ⟨#[]⟩, .bool false, .slice none 0 0, .int .i64 0] 46))
          clear hnw HX HL HB HR hE
          have c0 := cell_of_row (w1.alloc (.cells #[.int .i64 0, .string ⟨#[]⟩, .bool false, .slice none 0 0, .int .i64 0] 46)) _ 0 _ _ (0, 0) h1.mis
          have c1 := cell_of_row (w1.alloc (.cells #[.int .i64 0, .string ⟨#[]⟩, .bool false, .slice none 0 0, .int .i64 0] 46)) _ 1 _ _ (0, 0) h1.mis
          have f0 := frozen_of_row (w1.alloc (.cells #[.int .i64 0, .string ⟨#[]⟩, .bool false, .slice none 0 0, .int .i64 0] 46)) _ 0 _ _ h1.mis
          have f1 := frozen_of_row (w1.alloc (.cells #[.int .i64 0, .string ⟨#[]⟩, .bool false, .slice none 0 0, .int .i64 0] 46)) _ 1 _ _ h1.mis
          have ho := h1.over (.int .i64 x) (.int .i64 k)
          have hm := mis_set h1.mis (.int .i64 x) (.int .i64 k)
          go_wp2_with fail
          refine bodyPost_ret (results_tc rfl _ _ w.heap.size 25 _ (0, 0) _ rfl hm Tryd.underlying25 rfl (by kernel_rfl)) rfl ?_
          exact ⟨_, _, x, k, HX2.out, rfl, ho.1, ho.2.1, ho.2.2⟩
       ·clear HJ
        have hn0 : ¬ n = 0 := by omega
        have hzt : (s.extract k (k + n)).size = n := size_mid (by omega)
        have hsl := slice_kn (s := s) (k := k) (n := n) (by omega)
        go_wp2_with fail
        refine (refrow_any (s.extract k (k + n)) wr (by omega) (by omega)).mono ?_
        rintro e w1 (⟨kk, num, ad, len, cap, zs, rfl, hK, ho, hcn, hv⟩ | ⟨x, rfl, hE, hb1⟩)
        ·have HW := hide (row_wd HR.out (by omega) hK)
         have h1 := (h.later ho.1).later (below_alloc w1 (.cells #[.int .i64 kk, .string (s.extract k (k + n)), .bool false, .slice ad len cap, .int .i64 k] 46))
         have hM : Mg w (w1.alloc (.cells #[.int .i64 kk, .string (s.extract k (k + n)), .bool false, .slice ad len cap, .int .i64 k] 46)) ⟨⟨kk, s.extract k (k + n), num, k⟩, ad, len, cap, zs⟩ := ⟨(ho.outer h.below).later (below_alloc _ _), hcn, hv⟩
         clear hK ho hcn hv HR
         obtain ⟨i0, hi, hz0, hz1, hz2⟩ := info_parts infoRTok
         go_wp2_with (at_builtin; refine wpList_append_own_at _ rfl _ _ 22 rfl w.heap.size 46 i0 _ 5 64 Tryd.underlying22 hi hz0 hz1 hz2 rfl (by decide) _ _ _ rfl (h1.row.alloc _) ⟨(w1.alloc (.cells #[.int .i64 kk, .string (s.extract k (k + n)), .bool false, .slice ad len cap, .int .i64 k] 46)).heap.size, 0, none⟩ 1 1 (V5 ⟨⟨kk, s.extract k (k + n), num, k⟩, ad, len, cap, zs⟩) (by simp; rfl) rfl (v5_newt _ _ _) (v5_one _) (by unfold maxLen; omega) (by omega) (by have := h1.below.size; simp at this ⊢; omega) ?_; intro v' w2 hown' hgrow _ _)
         have hT := h1.append hM hown' hgrow
         have HX2 : Hid (∀ ts x p, Lx s (k + n) ts x p → Lx s 0 ((pre ++ [(⟨⟨kk, s.extract k (k + n), num, k⟩, ad, len, cap, zs⟩ : TM)]).map TM.d ++ ts) x p) := by
          show ∀ _, _
          intro ts x p hl
          rw [List.map_append, List.append_assoc]
          exact HX.out _ _ _ (.word HB.out hkl HW.out (by show Lx s (k + (s.extract k (k + n)).size) ts x p; rw [hzt]; exact hl))
         exact ⟨⟨k + n, _, by omega, by rw [List.length_append]; simp; omega, by go_num, HX2, hT⟩, by simp [intOf]; omega⟩
        ·have hnw := row_nw HR.out (by omega) hkl hE
         have hx := nw_ne hnw
         have hxb : (x == 0) = false := by rw [beq_eq_false_iff_ne]; omega
         have HX2 : Hid (Lxs s (pre.map TM.d) x k) := by
          have := HX.out [] x k (.bad HB.out hkl hnw)
          rw [List.append_nil] at this
          exact HL.out _ _ _ this
         have h1 := (h.later hb1).later (below_alloc w1 (.cells #[.int .i64 0, .string ⟨#[]⟩, .bool false, .slice none 0 0, .int .i64 0] 46))
         clear hnw HX HL HB HR hE
         have c0 := cell_of_row (w1.alloc (.cells #[.int .i64 0, .string ⟨#[]⟩, .bool false, .slice none 0 0, .int .i64 0] 46)) _ 0 _ _ (0, 0) h1.mis
         have c1 := cell_of_row (w1.alloc (.cells #[.int .i64 0, .string ⟨#[]⟩, .bool false, .slice none 0 0, .int .i64 0] 46)) _ 1 _ _ (0, 0) h1.mis
         have f0 := frozen_of_row (w1.alloc (.cells #[.int .i64 0, .string ⟨#[]⟩, .bool false, .slice none 0 0, .int .i64 0] 46)) _ 0 _ _ h1.mis
         have f1 := frozen_of_row (w1.alloc (.cells #[.int .i64 0, .string ⟨#[]⟩, .bool false, .slice none 0 0, .int .i64 0] 46)) _ 1 _ _ h1.mis
         have ho := h1.over (.int .i64 x) (.int .i64 k)
         have hm := mis_set h1.mis (.int .i64 x) (.int .i64 k)
         go_wp2_with fail
         refine bodyPost_ret (results_tc rfl _ _ w.heap.size 25 _ (0, 0) _ rfl hm Tryd.underlying25 rfl (by kernel_rfl)) rfl ?_
         exact ⟨_, _, x, k, HX2.out, rfl, ho.1, ho.2.1, ho.2.2⟩
      ·have hb := bt_lt s (k + n)
       have he := bt_eq s (k + n) hlt
       have HE : Hid (∀ j, j < n + 1 → inRow (bt s (k + j)) = true) := by
        show ∀ _, _
        intro j hj
        by_cases e : j = n
        ·rw [e]; exact hin
        ·exact HJ.out j (by omega)
       clear HJ
       go_wp2_with fail
       refine (rowed_n ((s[k + n]'hlt).toNat : Int) (by omega) (by omega) wr).mono ?_
       rintro e w' ⟨rfl, rfl⟩
       rw [← he, hin]
       clear he hin hb
       go_wp2_with fail
       exact ⟨⟨n + 1, by omega, by go_num, HE⟩, by simp [intOf]; omega⟩
   ·obtain rfl : k = s.size := by omega
    have HX2 : Hid (Lxs s (pre.map TM.d) 0 0) := by
     have := HX.out [] 0 0 (.done ⟨Nat.le_refl _, Nat.le_refl _, fun j h1 h2 => absurd h1 (by omega), fun h => absurd h (by omega)⟩)
     rw [List.append_nil] at this
     exact HL.out _ _ _ this
    clear HX HL
    have c0 := cell_of_row wr _ 0 _ _ (0, 0) h.mis
    have c1 := cell_of_row wr _ 1 _ _ (0, 0) h.mis
    have f0 := frozen_of_row wr _ 0 _ _ h.mis
    have f1 := frozen_of_row wr _ 1 _ _ h.mis
    have ho := h.over (.int .i64 0) (.int .i64 0)
    have hm := mis_set h.mis (.int .i64 0) (.int .i64 0)
    go_wp2_with fail
    refine bodyPost_ret (results_tc rfl _ _ w.heap.size 25 _ (0, 0) _ rfl hm Tryd.underlying25 rfl (by kernel_rfl)) rfl ?_
    exact ⟨_, _, 0, 0, HX2.out, rfl, ho.1, ho.2.1, ho.2.2⟩
end Go.Proofs.YtcgdhbgjmapoeaaDoor

namespace Go.Proofs.YtcgdhbgjmapoeaaDoor
open Go.RowKit Go.Shelf

theorem own_base {W : World} {base base' : Nat} {e : TypeId} {size : Nat} {v : Value} {n : Nat} {xs : List Value} (h : W.ownsRow base e size v n xs) (hb : base' ≤ base) : W.ownsRow base' e size v n xs := by
 obtain ⟨h1, h2⟩ := h
 refine ⟨h1, ?_⟩
 rcases h2 with h2 | ⟨g, cap, cur, h3, h4, h5⟩
 ·exact .inl h2
 ·exact .inr ⟨g, cap, cur, h3, by omega, h5⟩
set_option maxRecDepth 100000 in
set_option maxHeartbeats 3200000 in
theorem reftokens_any (s : ByteArray) (w : World) (hs : s.size ≤ 1099511627) :
  Calls Tryd.prog 8 #[.string s] w fun e w' =>
   (∃ (xs : List TM) (v : Value), Lxs s (xs.map TM.d) 0 0 ∧ e = .returned (.tuple #[v, misV 0 0]) ∧ w'.ownsRow w.heap.size 46 5 v xs.length (xs.flatMap V5) ∧ (∀ x ∈ xs, Mg w w' x) ∧ Below w.heap.size w w') ∨
   (∃ ts x p, Lxs s ts x p ∧ x ≠ 0 ∧ e = .returned (.tuple #[.slice none 0 0, misV x (p : Nat)]) ∧ Below w.heap.size w w') := by
 go_enter Tryd.func8, Tryd.ntmps8
 go_wp2_with fail
 have b0 := below_alloc w (.cells #[.int .i64 0, .int .i64 0] 25)
 have y0 := heap_alloc_new w (.cells #[.int .i64 0, .int .i64 0] 25)
 generalize w.alloc (.cells #[.int .i64 0, .int .i64 0] 25) = wb at *
 refine (refparts_any s wb hs).mono ?_
 rintro e w1 ⟨xs, v, x, p, hx, rfl, hrow, hmg, hb⟩
 obtain ⟨va, vn, vc, rfl⟩ := own_slice hrow
 unfold misV
 have hw1 : w.heap.size < w1.heap.size := by have h1 := hb.size; have h2 := (Array.getElem?_eq_some_iff.1 y0).1; omega
 by_cases hx0 : x = 0
 ·subst hx0
  have hp0 : p = 0 := by
   unfold Lxs at hx
   split at hx
   ·exact absurd hx.2.1 (by decide)
   ·rcases lx_zero hx with ⟨_, h⟩ | ⟨h, _⟩
    ·exact h
    ·omega
  subst hp0
  have HX := hide hx
  clear hx
  have ba := below_alloc w1 (.cells #[.int .i64 0, .int .i64 0] 25)
  have y1 := block_later (block_later y0 hb) ba
  have z1 : (w1.alloc (.cells #[.int .i64 0, .int .i64 0] 25)).heap[w1.heap.size]? = some (.cells #[.int .i64 0, .int .i64 0] 25 (0, 0)) := heap_alloc_new w1 _
  have hB : Below w.heap.size w (w1.alloc (.cells #[.int .i64 0, .int .i64 0] 25)) := grow_step ba (grow_step hb b0)
  go_wp2_with fail
  generalize w1.alloc (.cells #[.int .i64 0, .int .i64 0] 25) = Wa at *
  have c0 := cell_of_row Wa _ 0 _ _ (0, 0) y1
  have c1 := cell_of_row Wa _ 1 _ _ (0, 0) y1
  have f0 := frozen_of_row Wa _ 0 _ _ y1
  have f1 := frozen_of_row Wa _ 1 _ _ y1
  have d0 := cell_of_row Wa _ 0 _ _ (0, 0) z1
  have d1 := cell_of_row Wa _ 1 _ _ (0, 0) z1
  have n1 : ¬ (w1.heap.size = w.heap.size) := by omega
  have n2 : ¬ (w.heap.size = w1.heap.size) := by omega
  have hset := mis_set y1 (.int .i64 0) (.int .i64 0)
  have hBs : Below w.heap.size w ((Wa.setCell ⟨w.heap.size, 0, none⟩ (.int .i64 0)).setCell ⟨w.heap.size, 1, none⟩ (.int .i64 0)).drew := ((hB.setCell (p := ⟨w.heap.size, 0, none⟩) (Nat.le_refl _) _).setCell (p := ⟨w.heap.size, 1, none⟩) (Nat.le_refl _) _).drew
  have hrow2 := own_kt (owns_later (own_base hrow b0.size) ba) (e := 46) (kt_set y1 (by decide) (.int .i64 0) (.int .i64 0))
  have hmg2 : ∀ x ∈ xs, Mg w ((Wa.setCell ⟨w.heap.size, 0, none⟩ (.int .i64 0)).setCell ⟨w.heap.size, 1, none⟩ (.int .i64 0)).drew x := fun x hx => mg_kt (Mg.later ⟨(hmg x hx).1.outer b0, (hmg x hx).2⟩ ba) hBs (kt_set y1 (by decide) (.int .i64 0) (.int .i64 0))
  go_region
  all_goals (
   go_wp2_with fail
   refine bodyPost_ret (results_tc rfl _ _ w.heap.size 25 _ (0, 0) _ rfl hset Tryd.underlying25 rfl (by kernel_rfl)) rfl ?_
   exact .inl ⟨xs, _, HX.out, rfl, hrow2, hmg2, hBs⟩)
 ·have hxb : (x == 0) = false := by rw [beq_eq_false_iff_ne]; exact hx0
  have HX := hide hx
  clear hx
  have ba := below_alloc w1 (.cells #[.int .i64 x, .int .i64 p] 25)
  have y1 := block_later (block_later y0 hb) ba
  have z1 : (w1.alloc (.cells #[.int .i64 x, .int .i64 p] 25)).heap[w1.heap.size]? = some (.cells #[.int .i64 x, .int .i64 p] 25 (0, 0)) := heap_alloc_new w1 _
  have hB : Below w.heap.size w (w1.alloc (.cells #[.int .i64 x, .int .i64 p] 25)) := grow_step ba (grow_step hb b0)
  go_wp2_with fail
  generalize w1.alloc (.cells #[.int .i64 x, .int .i64 p] 25) = Wa at *
  have c0 := cell_of_row Wa _ 0 _ _ (0, 0) y1
  have c1 := cell_of_row Wa _ 1 _ _ (0, 0) y1
  have f0 := frozen_of_row Wa _ 0 _ _ y1
  have f1 := frozen_of_row Wa _ 1 _ _ y1
  have d0 := cell_of_row Wa _ 0 _ _ (0, 0) z1
  have d1 := cell_of_row Wa _ 1 _ _ (0, 0) z1
  have n1 : ¬ (w1.heap.size = w.heap.size) := by omega
  have n2 : ¬ (w.heap.size = w1.heap.size) := by omega
  have hset := mis_set y1 (.int .i64 x) (.int .i64 p)
  have hBs : Below w.heap.size w ((Wa.setCell ⟨w.heap.size, 0, none⟩ (.int .i64 x)).setCell ⟨w.heap.size, 1, none⟩ (.int .i64 p)).drew := ((hB.setCell (p := ⟨w.heap.size, 0, none⟩) (Nat.le_refl _) _).setCell (p := ⟨w.heap.size, 1, none⟩) (Nat.le_refl _) _).drew
  go_region
  all_goals (
   go_wp2_with fail
   refine bodyPost_ret (results_tc rfl _ _ w.heap.size 25 _ (0, 0) _ rfl hset Tryd.underlying25 rfl (by kernel_rfl)) rfl ?_
   exact .inr ⟨_, x, p, HX.out, hx0, rfl, hBs⟩)
end Go.Proofs.YtcgdhbgjmapoeaaDoor
