/-
 Several texts in one: YM, YW, YN, B2.
-/
import Derived.Test.YtagjfhipjbpoiaaQ18
import Derived.Test.YtagjfhipjbpoiaaQ10
import Derived.Test.YtagjfhipjbpoiaaQ17
namespace Go.Proofs.Ytagjfhipjbpoiaa
open Go.RowKit Go.Sort Go.Shelf
open Tm

theorem tb_set0 {w : World} {b : Nat} {ad : Option Addr} {n cp : Nat} {s : Bool} {a : Option Addr} {l c : Nat} (h : TB w b ad n cp s a l c) (ad' : Option Addr) (n' cp' : Nat) : TB (w.setCell ⟨b, 0, none⟩ (.slice ad' n' cp')) b ad' n' cp' s a l c := heap_setCell_same _ b 0 _ _ _ h
/-- the world that a call is measured by, while a term of one's own is being written -/
theorem own_base {wo wr : World} {o : Nat} {s : Bool} {a : Option Addr} {l c : Nat} {ad : Option Addr} {n cp : Nat} (y : TB wo o none 0 0 s a l c) (h : wo.grownBy wr (some o)) (yr : TB wr o ad n cp s a l c) :
  ∃ w0, w0.heap.size = wo.heap.size ∧ Below w0.heap.size w0 wr ∧ ∀ w', Below w0.heap.size w0 w' → wo.grownBy w' (some o) ∧ TB w' o ad n cp s a l c := by
 have y0 := tb_set0 y ad n cp
 have hs := gb_set wo o 0 (.slice ad n cp)
 have e : (wo.setCell ⟨o, 0, none⟩ (.slice ad n cp)).heap.size = wo.heap.size := by simp [World.setCell]
 refine ⟨wo.setCell ⟨o, 0, none⟩ (.slice ad n cp), e, ⟨h.os.trans hs.os.symm, h.tape.trans hs.tape.symm, h.output.trans hs.output.symm, by rw [e]; exact h.size, fun k hk => ?_⟩, fun w' hw => ⟨gb_below hs hw, y0.below hw⟩⟩
 rw [e] at hk
 by_cases hko : k = o
 ·subst hko; exact Eq.trans yr y0.symm
 ·exact (h.block k hk (by simpa using hko)).trans (hs.block k hk (by simpa using hko)).symm
theorem RS.grown {base : Nat} {w w' : World} {v : Value} {n cap : Nat} {L : List Raw} {o : Nat} (h : RS base w v n cap L) (hg : w.grownBy w' (some o)) (ho : o < base) : RS base w' v n cap L := by
 rcases h with h | ⟨g, e, hb, hr, h⟩
 ·exact .inl h
 ·exact .inr ⟨g, e, hb, hr.grown hg (by omega), h⟩

theorem rs_pr {base : Nat} {w : World} {ad : Option Addr} {n cap B : Nat} {L : List Raw} (h : RS base w (.slice ad n cap) n cap L) (hok : Rok w B L) : Pr w ad n ((L.take n).map Raw.p) B := by
 rcases h with ⟨e, h0, _, rfl⟩ | ⟨g, e, hb, hr, hl, hn, _⟩
 ·subst h0; exact ⟨by simp, .inl rfl⟩
 ·simp at e
  subst e
  refine ⟨by simp; omega, .inr ⟨g, 0, rfl, hr.lt, fun i hi => ?_⟩⟩
  have hi' : i < L.length := by simp at hi; omega
  have hx := hok L[i] (List.getElem_mem hi')
  exact ⟨(L[i]).s, (L[i]).a, (L[i]).l, (L[i]).c, by simpa [Raw.p] using hr.c0 hi', by simpa using hr.c1 hi', by simpa using hr.c2 hi', by simpa [Raw.p] using hx.1.zm, hx.2.1, by simpa [Raw.p] using hx.2.2⟩
/-- a list of parts whose numbers stand -/
def Pn (w : World) (ad : Option Addr) (n : Nat) (ps : List (Int × Int)) (B : Nat) : Prop :=
 ps.length = n ∧ (n = 0 ∨ ∃ b off, ad = some ⟨b, off, none⟩ ∧ b < w.heap.size ∧ ∀ i (h : i < ps.length), ∃ s a l c, w.cell? ⟨b, off + i * 3, none⟩ = some (.int .i64 (ps[i]).1) ∧ w.cell? ⟨b, off + i * 3 + 1, none⟩ = some (.bool s) ∧ w.cell? ⟨b, off + i * 3 + 2, none⟩ = some (.slice a l c) ∧ Zn w s a l c (ps[i]).2 ∧ l ≤ B ∧ I64 (ps[i]).1)
theorem Pn.pr {w : World} {ad : Option Addr} {n : Nat} {ps : List (Int × Int)} {B : Nat} (h : Pn w ad n ps B) : Pr w ad n ps B := by
 refine ⟨h.1, ?_⟩
 rcases h.2 with h2 | ⟨b, off, e, hlt, h2⟩
 ·exact .inl h2
 ·refine .inr ⟨b, off, e, hlt, fun i hi => ?_⟩
  obtain ⟨s, a, l, c, e0, e1, e2, hz, hl, hv⟩ := h2 i hi
  exact ⟨s, a, l, c, e0, e1, e2, hz.zm, hl, hv⟩
theorem Pn.below {w w' : World} {ad : Option Addr} {n : Nat} {ps : List (Int × Int)} {B : Nat} (h : Pn w ad n ps B) (hb : Below w.heap.size w w') : Pn w' ad n ps B := by
 refine ⟨h.1, ?_⟩
 rcases h.2 with h2 | ⟨b, off, e, hlt, h2⟩
 ·exact .inl h2
 ·refine .inr ⟨b, off, e, Nat.lt_of_lt_of_le hlt hb.size, fun i hi => ?_⟩
  obtain ⟨s, a, l, c, e0, e1, e2, hr, hl, hv⟩ := h2 i hi
  exact ⟨s, a, l, c, (hb.cell (p := ⟨b, off + i * 3, none⟩) hlt).trans e0, (hb.cell (p := ⟨b, off + i * 3 + 1, none⟩) hlt).trans e1, (hb.cell (p := ⟨b, off + i * 3 + 2, none⟩) hlt).trans e2, hr.below hb, hl, hv⟩
theorem Pn.mono {w : World} {ad : Option Addr} {n : Nat} {ps : List (Int × Int)} {B B' : Nat} (h : Pn w ad n ps B) (hB : B ≤ B') : Pn w ad n ps B' := by
 refine ⟨h.1, ?_⟩
 rcases h.2 with h2 | ⟨b, off, e, hlt, h2⟩
 ·exact .inl h2
 ·refine .inr ⟨b, off, e, hlt, fun i hi => ?_⟩
  obtain ⟨s, a, l, c, e0, e1, e2, hr, hl, hv⟩ := h2 i hi
  exact ⟨s, a, l, c, e0, e1, e2, hr, Nat.le_trans hl hB, hv⟩
theorem pn_nil (w : World) (ad : Option Addr) (B : Nat) : Pn w ad 0 [] B := ⟨rfl, .inl rfl⟩
theorem rs_pn {base : Nat} {w : World} {ad : Option Addr} {n cap B : Nat} {L : List Raw} (h : RS base w (.slice ad n cap) n cap L) (hok : Rok w B L) : Pn w ad n ((L.take n).map Raw.p) B := by
 rcases h with ⟨e, h0, _, rfl⟩ | ⟨g, e, hb, hr, hl, hn, _⟩
 ·subst h0; exact ⟨by simp, .inl rfl⟩
 ·simp at e
  subst e
  refine ⟨by simp; omega, .inr ⟨g, 0, rfl, hr.lt, fun i hi => ?_⟩⟩
  have hi' : i < L.length := by simp at hi; omega
  have hx := hok L[i] (List.getElem_mem hi')
  exact ⟨(L[i]).s, (L[i]).a, (L[i]).l, (L[i]).c, by simpa [Raw.p] using hr.c0 hi', by simpa using hr.c1 hi', by simpa using hr.c2 hi', by simpa [Raw.p] using hx.1, hx.2.1, by simpa [Raw.p] using hx.2.2⟩
theorem nk {wo w' : World} {p o bp f t : Nat} {ad : Option Addr} {n cp : Nat} {s : Bool} {a : Option Addr} {l c : Nat} {u0 u1 u2 : Value} (x : TB wo p ad n cp s a l c) (hpo : p ≠ o) (g0 : wo.cell? ⟨bp, f + t * 3, none⟩ = some u0) (g1 : wo.cell? ⟨bp, f + t * 3 + 1, none⟩ = some u1) (g2 : wo.cell? ⟨bp, f + t * 3 + 2, none⟩ = some u2) (hb : bp < wo.heap.size) (hbo : bp ≠ o) (hg : wo.grownBy w' (some o)) :
  w'.cell? ⟨p, 0, none⟩ = some (.slice ad n cp) ∧ w'.cell? ⟨bp, f + t * 3, none⟩ = some u0 ∧ w'.cell? ⟨bp, f + t * 3 + 1, none⟩ = some u1 ∧ w'.cell? ⟨bp, f + t * 3 + 2, none⟩ = some u2 ∧ wo.grownBy w' (some o) := by
 have h : ∀ i, w'.cell? ⟨bp, i, none⟩ = wo.cell? ⟨bp, i, none⟩ := fun i => by
  have := hg.block bp hb (by simpa using hbo)
  unfold World.cell?
  rw [this]
 exact ⟨(x.grown hg hpo).c0, (h _).trans g0, (h _).trans g1, (h _).trans g2, hg⟩

set_option maxRecDepth 100000 in
set_option maxHeartbeats 6400000 in
theorem rnorm5_w {w : World} {ad : Option Addr} {n cp : Nat} {s : Bool} {a : Option Addr} {l c : Nat} {ps : List (Int × Int)} {k : Int} {B : Nat} (hP : Pr w ad n ps B) (hz : Zm w s a l c k) (hl : l ≤ B) (hn : n ≤ 268435456) (hB : B + n ≤ 268435456) :
  Calls Try.prog 17 #[.agg #[.slice ad n cp, .bool s, .slice a l c]] w fun e w' => ∃ ad' n' cp' s' a' l' c', e = .returned (.agg #[.slice ad' n' cp', .bool s', .slice a' l' c']) ∧ TW w' ad' n' s' a' l' c' (nz (lays [] ps)) k (B + n + 1) ∧ Zn w' s' a' l' c' k ∧ Below w.heap.size w w' ∧ n' ≤ n ∧ Pn w' ad' n' (nz (lays [] ps)) (B + n + 1) ∧ (∀ b off, ad' = some ⟨b, off, none⟩ → w.heap.size ≤ b) := by
 go_enter Try.func17, Try.ntmps17
 go_wp2_with fail
 have x := (tb_new w ad n cp s a l c).below (below_alloc _ (.cells #[.slice none 0 0, .bool false, .slice none 0 0] 27))
 have y := tb_new (w.alloc (.cells #[.slice ad n cp, .bool s, .slice a l c] 27)) none 0 0 false none 0 0
 have b0 : Below w.heap.size w ((w.alloc (.cells #[.slice ad n cp, .bool s, .slice a l c] 27)).alloc (.cells #[.slice none 0 0, .bool false, .slice none 0 0] 27)) := below_alloc' (below_alloc _ _) _
 rw [show (w.alloc (.cells #[.slice ad n cp, .bool s, .slice a l c] 27)).heap.size = w.heap.size + 1 from by simp] at y
 generalize (w.alloc (.cells #[.slice ad n cp, .bool s, .slice a l c] 27)).alloc (.cells #[.slice none 0 0, .bool false, .slice none 0 0] 27) = wb at *
 have hpr : w.heap.size < w.heap.size + 1 := by omega
 have hP0 := hide hP
 clear hP
 replace hz := hz.below b0
 generalize hp : w.heap.size = p at *
 replace hp := hide hp
 generalize p + 1 = r at *
 refine (rnorm_n hz (by omega)).mono ?_
 rintro e w1 ⟨s1, a1, l1, c1, rfl, hz1, k1, hl1⟩
 replace hz := hz.below k1
 have x1 := x.below k1
 have y1 := y.below k1
 have v0 := y1.c0
 have v1 := y1.c1
 have v2 := y1.c2
 have v3 := y1.f 0
 have v4 := y1.f 1
 have v5 := y1.f 2
 go_wp2_with fail
 have yo := tb_new w1 none 0 0 s1 a1 l1 c1
 have ko := below_alloc w1 (.cells #[.slice none 0 0, .bool s1, .slice a1 l1 c1] 27)
 replace hz1 := hz1.below ko
 replace x1 := x1.below ko
 replace y1 := y1.below ko
 have hbo := hide (hp.out.symm ▸ (b0.trans ((k1.mono (Nat.le_of_lt (Nat.lt_trans hpr y.lt))).trans (ko.mono (Nat.le_trans (Nat.le_of_lt (Nat.lt_trans hpr y.lt)) k1.size)))) : Below w.heap.size w _)
 have hro : Hid (p < r ∧ r < w1.heap.size) := ⟨hpr, Nat.lt_of_lt_of_le y.lt k1.size⟩
 generalize w1.alloc (.cells #[.slice none 0 0, .bool s1, .slice a1 l1 c1] 27) = wo at *
 generalize w1.heap.size = o at *
 clear k1 ko b0 v0 v1 v2 v3 v4 v5 x y hz
 go_loopw [4] (fun i wr => ∃ (t : Nat) (ad' : Option Addr) (n' cap' : Nat) (L' : List Raw), t ≤ n ∧ i = .int .i64 t ∧ TB wr o ad' n' cap' s1 a1 l1 c1 ∧ Hid (RS wo.heap.size wr (.slice ad' n' cap') n' cap' L') ∧ Hid (Rok wr (B + t) L') ∧ Hid ((L'.take n').map Raw.p = lays [] (ps.take t)) ∧ n' ≤ t ∧ Hid (wo.grownBy wr (some o))) (fun i _ => n - (intOf i).toNat)
 case atStart => exact ⟨0, none, 0, 0, [], Nat.zero_le _, rfl, yo, .inl ⟨rfl, rfl, rfl, rfl⟩, (fun x hx => absurd hx (by simp)), (show _ = _ from rfl), by omega, ⟨rfl, rfl, rfl, Nat.le_refl _, fun _ _ _ => rfl⟩⟩
 case round =>
  obtain ⟨t, ad', n', cap', L', ht, rfl, yr, hR, hok, hlays, hn', hg⟩ := hrel
  have xr := x1.grown hg.out (by have := hro.out; omega)
  have u0 := xr.c0
  have e0 := yr.c0
  have f0 := yr.f 0
  have hol := yo.lt
  by_cases htn : t < n
  ·obtain ⟨hpn, hPr⟩ := hP0.out
   rcases hPr with hPr | ⟨bp, f, rfl, hPr⟩
   ·omega
   ·have hbp := hPr.1
    obtain ⟨s2, a2, l2, c2, g0, g1, g2, hz2, hl2, hv⟩ := (hPr.below hbo.out).2 t (by omega)
    have hbpo : bp ≠ o := by have := hro.out; have := hp.out; omega
    have hbpl : bp < wo.heap.size := (hPr.below hbo.out).1
    have hpo : p ≠ o := by have := hro.out; omega
    have hps : Hid (ps.take (t + 1) = ps.take t ++ [ps[t]]) := List.take_succ_eq_append_getElem (l := ps) (i := t) (by omega)
    generalize ps[t] = pp at *
    obtain ⟨pv, pz⟩ := pp
    dsimp only at *
    obtain ⟨w0, hw0, hbr, hnext⟩ := own_base yo hg.out yr
    have kd := grow_drew (Below.refl wr.heap.size wr)
    have hd := gb_below hg.out kd
    have hR0 : RS w0.heap.size wr.drew (.slice ad' n' cap') n' cap' L' := hw0 ▸ (hR.out.below kd)
    have hlaid := hide (laid_n (B := B + t) hR0 (grow_step kd hbr) (hok.out.below kd) (hz2.grownU hd (tb_noU yo)) (by omega) hv (by omega) (by omega))
    have hnext' := hide hnext
    clear hbr hR0 hnext hPr hz2
    replace hw0 := hide hw0
    go_wp2_with fail
    refine wp_region_held_drew (S := (fun w' => w'.cell? ⟨p, 0, none⟩ = some (.slice (some ⟨bp, f, none⟩) n cp) ∧ w'.cell? ⟨bp, f + t * 3, none⟩ = some (.int .i64 pv) ∧ w'.cell? ⟨bp, f + t * 3 + 1, none⟩ = some (.bool s2) ∧ w'.cell? ⟨bp, f + t * 3 + 2, none⟩ = some (.slice a2 l2 c2) ∧ wo.grownBy w' (some o))) (by kernel_rfl) (nk x1 hpo g0 g1 g2 hbpl hbpo hd) (fun hHeld => ?_)
    show wpAnyH _ _ _ _ _ 10 _ _ _
    refine wpAnyH_take (i := 0) (oi := ⟨some 19, _, _, _, _, _⟩) (v := ?_) rfl (by kernel_rfl) (by kernel_rfl) (by kernel_rfl) (fun _ _ _ h => h) (Or.inl ⟨by rfl, ?_⟩) (by assumption) ?_
    rotate_left
    ·intro wq hSw; (try dsimp only at hSw); go_simp; (try with_reducible rfl)
    (try simp only [Act.put, List.setIfInBounds_toArray, List.set_cons_zero, List.set_cons_succ])
    refine wpAnyH_take (i := 2) (oi := ⟨some 21, _, _, _, _, _⟩) (v := ?_) rfl (by kernel_rfl) (by kernel_rfl) (by kernel_rfl) (fun _ _ _ h => h) (Or.inl ⟨by rfl, ?_⟩) (by assumption) ?_
    rotate_left
    ·intro wq hSw; (try dsimp only at hSw); go_simp; (try with_reducible rfl)
    (try simp only [Act.put, List.setIfInBounds_toArray, List.set_cons_zero, List.set_cons_succ])
    refine wpAnyH_take (i := 3) (oi := ⟨some 22, _, _, _, _, _⟩) (v := ?_) rfl (by kernel_rfl) (by kernel_rfl) (by kernel_rfl) (fun _ _ _ h => h) (Or.inl ⟨by rfl, ?_⟩) (by assumption) ?_
    rotate_left
    ·intro wq hSw; (try dsimp only at hSw); go_simp; (try with_reducible rfl)
    (try simp only [Act.put, List.setIfInBounds_toArray, List.set_cons_zero, List.set_cons_succ])
    refine wpAnyH_take (i := 4) (oi := ⟨some 23, _, _, _, _, _⟩) (v := ?_) rfl (by kernel_rfl) (by kernel_rfl) (by kernel_rfl) (fun _ _ _ h => h) (Or.inl ⟨by rfl, ?_⟩) (by assumption) ?_
    rotate_left
    ·intro wq hSw; (try dsimp only at hSw); go_simp; (try with_reducible rfl)
    (try simp only [Act.put, List.setIfInBounds_toArray, List.set_cons_zero, List.set_cons_succ])
    refine wpAnyH_take (i := 5) (oi := ⟨some 24, _, _, _, _, _⟩) (v := ?_) rfl (by kernel_rfl) (by kernel_rfl) (by kernel_rfl) (fun _ _ _ h => h) (Or.inl ⟨by rfl, ?_⟩) (by assumption) ?_
    rotate_left
    ·intro wq hSw; (try dsimp only at hSw); go_simp; (try with_reducible rfl)
    (try simp only [Act.put, List.setIfInBounds_toArray, List.set_cons_zero, List.set_cons_succ])
    refine wpAnyH_take (i := 6) (oi := ⟨some 25, _, _, _, _, _⟩) (v := ?_) rfl (by kernel_rfl) (by kernel_rfl) (by kernel_rfl) (fun _ _ _ h => h) (Or.inl ⟨by rfl, ?_⟩) (by assumption) ?_
    rotate_left
    ·intro wq hSw; (try dsimp only at hSw); go_simp; (try with_reducible rfl)
    (try simp only [Act.put, List.setIfInBounds_toArray, List.set_cons_zero, List.set_cons_succ])
    refine wpAnyH_ready (rs := [1]) (by kernel_rfl) (by simp) ?_
    refine AllReadyH.cons (o := ⟨some 20, _, _, _, _, _⟩) rfl (fun K hK => ?_) ?_
    ·go_simp
     refine hK.out _ _ ?_ ?_
     ·(try dsimp only); (refine nk x1 hpo g0 g1 g2 hbpl hbpo ?_; assumption)
     clear hK K hHeld; intro hHeld
     (try simp only [Act.put, List.setIfInBounds_toArray, List.set_cons_zero, List.set_cons_succ])
     refine wpAnyH_ready (rs := [7]) (by kernel_rfl) (by simp) ?_
     refine AllReadyH.cons (o := ⟨some 26, _, _, _, _, _⟩) rfl (fun K hK => ?_) ?_
     ·go_simp
      go_at_call 59; refine hlaid.out.mono ?_; rintro e w2 ⟨ad2, n2, cap2, L2, rfl, hR2, hok2, hins, hn2, hb2⟩; obtain ⟨hg2, y2⟩ := hnext'.out w2 hb2; have d0 := y2.c0; have d1 := y2.f 0; have hg3 := gb_trans hg2 (gb_set w2 o 0 (.slice ad2 n2 cap2))
      (try go_wp2_with fail)
      refine hK.out _ _ ?_ ?_
      ·(try dsimp only); (refine nk x1 hpo g0 g1 g2 hbpl hbpo ?_; assumption)
      clear hK K hHeld; intro hHeld
      (try simp only [Act.put, List.setIfInBounds_toArray, List.set_cons_zero, List.set_cons_succ])
      refine wpAnyH_take (i := 8) (oi := ⟨some 27, _, _, _, _, _⟩) (v := ?_) rfl (by kernel_rfl) (by kernel_rfl) (by kernel_rfl) (fun _ _ _ h => h) (Or.inl ⟨by rfl, ?_⟩) (by assumption) ?_
      rotate_left
      ·intro wq hSw; (try dsimp only at hSw); go_simp; (try with_reducible rfl)
      (try simp only [Act.put, List.setIfInBounds_toArray, List.set_cons_zero, List.set_cons_succ])
      refine wpAnyH_ready (rs := [9]) (by kernel_rfl) (by simp) ?_
      refine AllReadyH.cons (o := ⟨none, _, _, _, _, _⟩) rfl (fun K hK => ?_) ?_
      ·go_simp
       refine hK.out _ _ ?_ ?_
       ·(try dsimp only); (refine nk x1 hpo g0 g1 g2 hbpl hbpo ?_; assumption)
       clear hK K hHeld; intro hHeld
       (try simp only [Act.put, List.setIfInBounds_toArray, List.set_cons_zero, List.set_cons_succ])
       refine wpAnyH_done (by kernel_rfl) ?_ _
       (have y3 := tb_set0 y2 ad2 n2 cap2; have hR3 := hide (RS.grown (o := o) (hw0.out ▸ hR2 : RS wo.heap.size w2 (.slice ad2 n2 cap2) n2 cap2 L2) (gb_set w2 o 0 (.slice ad2 n2 cap2)) hol); have hok3 : Hid (Rok (w2.setCell ⟨o, 0, none⟩ (.slice ad2 n2 cap2)) (B + (t + 1)) L2) := (hok2.grownU (gb_set w2 o 0 (.slice ad2 n2 cap2)) (tb_noU y2)); have hlays3 : Hid ((L2.take n2).map Raw.p = lays [] (ps.take (t + 1))) := (show _ = _ by rw [hps.out, lays_snoc, ← hlays.out]; exact hins); replace hg3 := hide hg3; clear hHeld hR2 hok2 hins hb2 hg2 y2 d0 d1 hd kd hlaid hnext'; go_wp2_with fail; exact ⟨⟨t + 1, ad2, n2, cap2, L2, by omega, by go_num, y3, hR3, hok3, hlays3, by omega, hg3⟩, by simp [intOf]; omega⟩)
      exact AllReadyH.nil
     exact AllReadyH.nil
    exact AllReadyH.nil
  ·obtain rfl : n = t := by omega
   have hall : Hid ((L'.take n').map Raw.p = lays [] ps) := (show _ = _ by rw [hlays.out, List.take_of_length_le (by have := hP0.out.1; omega)])
   have hzr := hide (hz1.grownU hg.out (tb_noU yo))
   have yr0 := y1.grown hg.out (by have := hro.out; omega)
   have hbr : Hid (Below w.heap.size w wr) := below_grown hbo.out hg.out (by have := hro.out; have := hp.out; omega)
   have hpl : Hid (w.heap.size ≤ p ∧ p < r ∧ r < o ∧ o < wr.heap.size) := ⟨Nat.le_of_eq hp.out, hro.out.1, hro.out.2, yr.lt⟩
   clear hg hlays hbo hol ht htn yo x1 y1 hz1
   go_wp2_with fail
   generalize wr = wl at *
   go_loopw [5, 6] (fun v i w3 => ∃ (t : Nat) (ad3 : Option Addr) (n3 cap3 : Nat) (L3 : List Raw), t ≤ n' ∧ i = .int .i64 t ∧ v = .slice ad3 n3 cap3 ∧ Hid (RS wl.heap.size w3 (.slice ad3 n3 cap3) n3 cap3 L3) ∧ Hid (Rok w3 (B + n) L3) ∧ Hid ((L3.take n3).map Raw.p = nz ((L'.take t).map Raw.p)) ∧ n3 ≤ t ∧ Hid (Below wl.heap.size wl w3)) (fun _ i _ => n' - (intOf i).toNat)
   case atStart => exact ⟨0, none, 0, 0, [], Nat.zero_le _, rfl, rfl, .inl ⟨rfl, rfl, rfl, rfl⟩, (fun x hx => absurd hx (by simp)), (show _ = _ from rfl), by omega, Below.refl _ _⟩
   case round =>
    obtain ⟨t, ad3, n3, cap3, L3, ht, rfl, rfl, hR3, hok3, hnz, hn3, k3⟩ := hrel
    have yq := yr.below k3.out
    have e3 := yq.c0
    by_cases htn : t < n'
    ·rcases hR.out with ⟨_, h, _⟩ | ⟨g, he, hgb, rb, hLc, hnc, hcm⟩
     ·omega
     ·simp at he
      subst he
      have r3 := rb.below k3.out
      have htL : t < L'.length := by omega
      have q0 := r3.c0 htL
      have q1 := r3.c1 htL
      have q2 := r3.c2 htL
      have hx := (hok.out.below k3.out) L'[t] (List.getElem_mem htL)
      have hstep : Hid (nz ((L'.take (t + 1)).map Raw.p) = nz ((L'.take t).map Raw.p) ++ nz [(L'[t]).p]) := (show _ = _ by rw [List.take_succ_eq_append_getElem htL, List.map_append, nz_append]; rfl)
      generalize hxr : L'[t] = xr at *
      go_wp2_with fail
      refine (rsign_n hx.1.zm (by have := hx.2.1; omega)).mono ?_
      rintro e w4 ⟨rfl, k4⟩
      have kk : Hid (Below wl.heap.size wl w4) := grow_step k4 k3.out
      have R4 := hide (hR3.out.below k4)
      have ok4 := hide (hok3.out.below k4)
      replace hx : xr.ok w4 (B + n) := ⟨hx.1.below k4, hx.2⟩
      replace yq := yq.below k4
      have e4 := yq.c0
      replace r3 := r3.below k4
      by_cases hz0 : xr.z = 0
      ·have hc : cmpI xr.z 0 = 0 := by rw [hz0]; rfl
       rw [hc]
       have hnz' : Hid ((L3.take n3).map Raw.p = nz ((L'.take (t + 1)).map Raw.p)) := (show _ = _ by rw [hstep.out, hnz.out]; simp [nz, Raw.p, hz0])
       go_wp2_with fail
       exact ⟨⟨t + 1, ad3, n3, cap3, L3, by omega, by go_num, rfl, R4, ok4, hnz', by omega, kk⟩, by simp [intOf]; omega⟩
      ·have hc : cmpI xr.z 0 ≠ 0 := by unfold cmpI; split <;> (try split) <;> omega
       generalize cmpI xr.z 0 = cz at *
       have t0 := hxr ▸ r3.c0 htL
       have t1 := hxr ▸ r3.c1 htL
       have t2 := hxr ▸ r3.c2 htL
       have kz := below_alloc w4 (.cells #[.int .i64 xr.v, .bool xr.s, .slice xr.a xr.l xr.c] 62)
       have happ := hide (run_append_rs (w0 := wl) (R4.out.below kz) (grow_step kz kk.out) xr ⟨w4.heap.size, 0, none⟩ (v3_new w4 xr.v xr.s xr.a xr.l xr.c) (by omega))
       replace kz := hide kz
       clear k4
       go_wp2_with (at_builtin; refine wpList_append_run rfl _ _ 22 rfl _ _ rfl rfl _ (happ.out _) ?_; rintro v5 w5 ⟨cap5, L5, hR5, htk, hmem, hb5, hg5, -⟩; obtain ⟨ad5, rfl⟩ := hR5.row; replace hR5 := hide hR5; replace hmem := hide hmem; replace hb5 := hide hb5; replace hg5 := hide hg5; replace htk := hide htk)
       have ok5 : Hid (Rok w5 (B + n) L5) := fun y hy => by
        rcases hmem.out y hy with h | rfl | rfl
        ·exact ⟨(R4.out.below kz.out).zn hg5.out ((ok4.out y h).1.below kz.out), (ok4.out y h).2⟩
        ·exact ⟨(R4.out.below kz.out).zn hg5.out (hx.1.below kz.out), hx.2⟩
        ·exact zr_ok _ _
       have hnz' : Hid ((L5.take (n3 + 1)).map Raw.p = nz ((L'.take (t + 1)).map Raw.p)) := (show _ = _ by rw [htk.out, List.map_append, hnz.out, hstep.out]; simp [nz, Raw.p, hz0])
       exact ⟨⟨t + 1, ad5, n3 + 1, cap5, L5, by omega, by go_num, rfl, hR5, ok5, hnz', by omega, hb5⟩, by simp [intOf]; omega⟩
    ·obtain rfl : n' = t := by omega
     have e1 := yq.f 0
     have y5 := tb_set0 yq ad3 n3 cap3
     have g5 := gb_set wr o 0 (.slice ad3 n3 cap3)
     have yr5 := (yr0.below k3.out).grown g5 (by have := hpl.out; omega)
     have i0 := y5.c0
     have i1 := y5.c1
     have i2 := y5.c2
     have j0 := yr5.c0
     have j1 := yr5.c1
     have j2 := yr5.c2
     have j3 := yr5.f 0
     have j4 := yr5.f 1
     have j5 := yr5.f 2
     have i3 := yq.c1
     have i4 := yq.c2
     have g6 := tb_set (wr.setCell ⟨o, 0, none⟩ (.slice ad3 n3 cap3)) r (.slice ad3 n3 cap3) (.bool s1) (.slice a1 l1 c1)
     have fR := hide ((hR3.out.grown g5 yr.lt).grown g6 (by have := hpl.out; omega))
     have fO := hide ((hok3.out.grownU g5 (tb_noU yq)).grownU g6 (tb_noU yr5))
     have fZ := hide (((hzr.out.below k3.out).grownU g5 (tb_noU yq)).grownU g6 (tb_noU yr5))
     have fB := hide (below_grown (below_grown (hbr.out.trans (k3.out.mono hbr.out.size)) g5 (by have := hpl.out; omega)) g6 (by have := hpl.out; omega))
     have fin := hide (tb_fin yr5 ad3 n3 cap3 s1 a1 l1 c1)
     have hfull : Hid ((L3.take n3).map Raw.p = nz (lays [] ps)) := (show _ = _ by rw [hnz.out, hall.out])
     clear g5 g6
     go_wp2_with fail
     refine bodyPost_ret (results_cell_row rfl _ _ r 27 _ (0, 0) _ rfl fin.out Try.underlying27 rfl (by kernel_rfl)) rfl ?_
     have hpr := rs_pr fR.out fO.out
     have hpn := rs_pn fR.out fO.out
     rw [hfull.out] at hpr hpn
     have hnew : ∀ b off, ad3 = some ⟨b, off, none⟩ → w.heap.size ≤ b := fun b off e => by
      rcases fR.out with ⟨h1, _⟩ | ⟨g, h1, hg, _⟩
      ·simp at h1
       rw [h1.1] at e
       cases e
      ·simp at h1
       rw [h1] at e
       simp at e
       have := hpl.out
       omega
     exact ⟨ad3, n3, cap3, s1, a1, l1, c1, by simp, ⟨hpr.mono (by omega), fZ.out.zm, by omega⟩, fZ.out, fB.out, by omega, hpn.mono (by omega), hnew⟩
theorem rnorm5_r {w : World} {ad : Option Addr} {n cp : Nat} {s : Bool} {a : Option Addr} {l c : Nat} {ps : List (Int × Int)} {k : Int} {B : Nat} (hP : Pr w ad n ps B) (hz : Zm w s a l c k) (hl : l ≤ B) (hn : n ≤ 268435456) (hB : B + n ≤ 268435456) :
  Calls Try.prog 17 #[.agg #[.slice ad n cp, .bool s, .slice a l c]] w fun e w' => ∃ ad' n' cp' s' a' l' c', e = .returned (.agg #[.slice ad' n' cp', .bool s', .slice a' l' c']) ∧ TW w' ad' n' s' a' l' c' (nz (lays [] ps)) k (B + n + 1) ∧ Zn w' s' a' l' c' k ∧ Below w.heap.size w w' ∧ n' ≤ n ∧ Pn w' ad' n' (nz (lays [] ps)) (B + n + 1) :=
 (rnorm5_w hP hz hl hn hB).mono fun _ _ ⟨ad', n', cp', s', a', l', c', he, h1, h2, h3, h4, h5, _⟩ => ⟨ad', n', cp', s', a', l', c', he, h1, h2, h3, h4, h5⟩
theorem rnorm5_n {w : World} {ad : Option Addr} {n cp : Nat} {s : Bool} {a : Option Addr} {l c : Nat} {ps : List (Int × Int)} {k : Int} {B : Nat} (hP : Pr w ad n ps B) (hz : Zm w s a l c k) (hl : l ≤ B) (hn : n ≤ 268435456) (hB : B + n ≤ 268435456) :
  Calls Try.prog 17 #[.agg #[.slice ad n cp, .bool s, .slice a l c]] w fun e w' => ∃ ad' n' cp' s' a' l' c', e = .returned (.agg #[.slice ad' n' cp', .bool s', .slice a' l' c']) ∧ TW w' ad' n' s' a' l' c' (nz (lays [] ps)) k (B + n + 1) ∧ Zn w' s' a' l' c' k ∧ Below w.heap.size w w' ∧ n' ≤ n :=
 (rnorm5_r hP hz hl hn hB).mono fun _ _ ⟨ad', n', cp', s', a', l', c', he, h1, h2, h3, h4, _⟩ => ⟨ad', n', cp', s', a', l', c', he, h1, h2, h3, h4⟩
end Go.Proofs.Ytagjfhipjbpoiaa

namespace Go.Proofs.Ytagjfhipjbpoiaa.Fresh
open Go.RowKit Go.Sort Go.Shelf
open Tm

theorem NW.k {F : Nat} {w : World} {ad : Option Addr} {n cp : Nat} {a : Option Addr} {l c : Nat} {a' : Option Addr} {l' c' : Nat} (h : NW F w ad n cp a l c) (hl : l' ≤ c') (hf : Fr F w a' c') : NW F w ad n cp a' l' c' := by
 obtain ⟨L, h1, h2, _, _⟩ := h
 exact ⟨L, h1, h2, hl, hf⟩
/-- a coefficient is put in place -/
theorem nw_step {F : Nat} {w : World} {g n cp : Nat} {a : Option Addr} {l c : Nat} (h : NW F w (some ⟨g, 0, none⟩) n cp a l c) {t : Nat} (ht : t < n) {s : Bool} {a' : Option Addr} {l' c' : Nat} (hl : l' ≤ c') (hf : F ≤ g → Fr F w a' c') :
  NW F ((w.setCell ⟨g, t * 3 + 1, none⟩ (.bool s)).setCell ⟨g, t * 3 + 2, none⟩ (.slice a' l' c')) (some ⟨g, 0, none⟩) n cp a l c := by
 obtain ⟨L, h1, h2, h3, h4⟩ := h
 rcases h1 with ⟨e, _⟩ | ⟨g', e, hb, hr, hL, hn, hm⟩
 ·cases e
 ·cases e
  have htL : t < L.length := by omega
  have hg : w.grownBy ((w.setCell ⟨g, t * 3 + 1, none⟩ (.bool s)).setCell ⟨g, t * 3 + 2, none⟩ (.slice a' l' c')) (some g) := gb_trans (gb_set _ _ _ _) (gb_set _ _ _ _)
  refine ⟨L.set t ⟨(L[t]).v, s, a', l', c', 0⟩, .inr ⟨g, rfl, hb, rb_set2 hr htL ⟨(L[t]).v, s, a', l', c', 0⟩ rfl, by simpa using hL, hn, hm⟩, fun x hx => ?_, h3, h4.grownN hg (nr_rb hr)⟩
  rcases List.mem_or_eq_of_mem_set hx with h | rfl
  ·exact (h2.grownN hg (nr_rb hr)) x h
  ·exact ⟨hl, (hf hb).grownN hg (nr_rb hr)⟩
theorem se_pn {w : World} {g n : Nat} {rs : List Raw} {k : Int} {B2 : Nat} (h : SE w g rs k B2) (hn : rs.length = n) : Pn w (some ⟨g, 0, none⟩) n (scl k (rs.map Raw.p)) B2 := by
 refine ⟨by simpa [scl] using hn, .inr ⟨g, 0, rfl, h.1, fun i hi => ?_⟩⟩
 have hi' : i < rs.length := by simpa [scl] using hi
 obtain ⟨x, ⟨c0, c1, c2⟩, e, hv, h5, h6⟩ := h.2 i hi'
 have e2 : (scl k (rs.map Raw.p))[i] = (rs[i].v, k * rs[i].z) := by simp [scl, Raw.p]
 rw [e2, Nat.zero_add]
 exact ⟨x.s, x.a, x.l, x.c, by rw [← e]; exact c0, c1, c2, h5.zn, h6, by rw [← e]; exact hv⟩
set_option maxRecDepth 100000 in
set_option maxHeartbeats 3200000 in
theorem tscale_n {F : Nat} {w : World} {s0 : Bool} {a0 : Option Addr} {l0 c0 : Nat} {k0 : Int} {ad : Option Addr} {n cp : Nat} {s : Bool} {a : Option Addr} {l c : Nat} {ps : List (Int × Int)} {k : Int} {B : Nat} (hF : F ≤ w.heap.size) (hk : Go.Proofs.Ytagjfhipjbpoiaa.Zm w s0 a0 l0 c0 k0) (hk0 : l0 ≤ 536870912) (hP : Pr w ad n ps B) (hz : Go.Proofs.Ytagjfhipjbpoiaa.Zm w s a l c k) (hl : l ≤ B) (hB : B + n ≤ 536870912) :
  Calls Try.prog 23 #[.agg #[.bool s0, .slice a0 l0 c0], .agg #[.slice ad n cp, .bool s, .slice a l c]] w fun e w' => ∃ ad' n' cp' s' a' l' c' qs, e = .returned (.agg #[.slice ad' n' cp', .bool s', .slice a' l' c']) ∧ TW w' ad' n' s' a' l' c' qs (k0 * k) (l0 + (B + n + 1)) ∧ n' ≤ n ∧ Std qs ∧ (∀ v, csum qs v = csum (scl k0 ps) v) ∧ Below w.heap.size w w' ∧ NW F w' ad' n' cp' a' l' c' ∧ Pn w' ad' n' qs (l0 + (B + n + 1)) ∧ Go.Proofs.Ytagjfhipjbpoiaa.Zn w' s' a' l' c' (k0 * k) := by
 have hF0 := hide hF
 go_enter Try.func23, Try.ntmps23
 go_wp2_with fail
 have x := ((zb_new w s0 a0 l0 c0).below (below_alloc _ (.cells #[.slice ad n cp, .bool s, .slice a l c] 27))).below (below_alloc _ (.cells #[.slice none 0 0, .bool false, .slice none 0 0] 27))
 have q := (tb_new (w.alloc (.cells #[.bool s0, .slice a0 l0 c0] 25)) ad n cp s a l c).below (below_alloc _ (.cells #[.slice none 0 0, .bool false, .slice none 0 0] 27))
 have y := tb_new ((w.alloc (.cells #[.bool s0, .slice a0 l0 c0] 25)).alloc (.cells #[.slice ad n cp, .bool s, .slice a l c] 27)) none 0 0 false none 0 0
 have b0 : Below w.heap.size w (((w.alloc (.cells #[.bool s0, .slice a0 l0 c0] 25)).alloc (.cells #[.slice ad n cp, .bool s, .slice a l c] 27)).alloc (.cells #[.slice none 0 0, .bool false, .slice none 0 0] 27)) := below_alloc' (below_alloc' (below_alloc _ _) _) _
 rw [show (w.alloc (.cells #[.bool s0, .slice a0 l0 c0] 25)).heap.size = w.heap.size + 1 from by simp] at q
 rw [show ((w.alloc (.cells #[.bool s0, .slice a0 l0 c0] 25)).alloc (.cells #[.slice ad n cp, .bool s, .slice a l c] 27)).heap.size = w.heap.size + 1 + 1 from by simp] at y
 generalize ((w.alloc (.cells #[.bool s0, .slice a0 l0 c0] 25)).alloc (.cells #[.slice ad n cp, .bool s, .slice a l c] 27)).alloc (.cells #[.slice none 0 0, .bool false, .slice none 0 0] 27) = wb at *
 have hpr : w.heap.size < w.heap.size + 1 ∧ w.heap.size + 1 < w.heap.size + 1 + 1 := by omega
 replace hP := hP.below b0
 replace hz := hz.below b0
 have hkw := hide hk
 replace hk := hk.below b0
 have hFb := hide (Nat.le_trans hF b0.size)
 generalize hp : w.heap.size = p at *
 replace b0 : Hid (Below w.heap.size w wb) := hp ▸ b0
 replace hF0 : Hid (F ≤ w.heap.size) := hp ▸ hF0
 replace hp := hide hp
 generalize p + 1 = q0 at *
 generalize q0 + 1 = r at *
 replace hpr := hide hpr
 refine (zsign_n hk (by omega)).mono ?_
 rintro e w1 ⟨rfl, k1⟩
 have x1 := x.below k1
 have q1 := q.below k1
 have y1 := y.below k1
 replace hP := hP.below k1
 replace hz := hz.below k1
 replace hk := hk.below k1
 replace b0 := hide (grow_step k1 b0.out)
 replace hFb := hide (fle hFb.out k1)
 clear k1 x q y
 by_cases h0 : k0 = 0
 ·have e0 : cmpI k0 0 = 0 := cmpI_eq h0
  rw [e0]
  have v0 := y1.c0
  have v1 := y1.c1
  have v2 := y1.c2
  have v3 := y1.f 0
  have v4 := y1.f 1
  have v5 := y1.f 2
  go_wp2
  refine bodyPost_ret (results_cell_row rfl _ _ r 27 _ (0, 0) _ rfl (tb_fin y1 none 0 0 false none 0 0) Try.underlying27 rfl (by kernel_rfl)) rfl ?_
  exact ⟨none, 0, 0, false, none, 0, 0, [], by simp, ⟨⟨rfl, .inl rfl⟩, by rw [h0, Int.zero_mul]; exact (zn_zero _).zm, Nat.zero_le _⟩, Nat.zero_le _, std_nil, fun v => by rw [csum_scl, h0, Int.zero_mul]; rfl, below_grown b0.out (tb_set _ _ _ _ _) (by have := hp.out; have := hpr.out; omega), ⟨[], .inl ⟨rfl, rfl, rfl, rfl⟩, fun x hx => (by cases hx), Nat.le_refl _, .inl ⟨rfl, rfl⟩⟩, pn_nil _ _ _, by rw [h0, Int.zero_mul]; exact zn_zero _⟩
 ·have e0 : cmpI k0 0 ≠ 0 := by unfold cmpI; split <;> (try split) <;> omega
  have t0 := q1.c0
  have t1 := q1.c1
  have t2 := q1.c2
  generalize cmpI k0 0 = sgn at *
  go_wp2_with fail
  refine (tnorm_n hFb.out hP hz hl hB).mono ?_
  rintro e w2 ⟨ad1, n1, cp1, s1, a1, l1, c1, rs, rfl, hTN, hn1, hStd, hcs, hNW⟩
  replace hFb := hide (fle hFb.out hTN.below)
  obtain ⟨wm, bm1, bm2, hT, hzn, hln⟩ := hTN
  have bm : Below w1.heap.size w1 w2 := grow_step bm2 bm1
  have hwq : w.heap.size ≤ q0 := by have := hp.out; have := hpr.out; omega
  have hqw : q0 < wm.heap.size ∧ p < wm.heap.size ∧ r < wm.heap.size := ⟨(q1.below bm1).lt, (x1.below bm1).lt, (y1.below bm1).lt⟩
  have hTN := tn_fin2 (w := w) (grow_step bm1 b0.out) bm2 hT (q1.below bm1) hwq hzn hln cp1
  have q2 := q1.below bm
  replace hNW := hide (hNW.tb q2 (tb_set w2 q0 (.slice ad1 n1 cp1) (.bool s1) (.slice a1 l1 c1)))
  replace hFb := hide (Nat.le_trans hFb.out (tb_set w2 q0 (.slice ad1 n1 cp1) (.bool s1) (.slice a1 l1 c1)).size)
  have x3 := (x1.below bm).grown (tb_set w2 q0 (.slice ad1 n1 cp1) (.bool s1) (.slice a1 l1 c1)) (by have := hpr.out; omega)
  have y3 := (y1.below bm).grown (tb_set w2 q0 (.slice ad1 n1 cp1) (.bool s1) (.slice a1 l1 c1)) (by have := hpr.out; omega)
  have q3 := tb_fin q2 ad1 n1 cp1 s1 a1 l1 c1
  have d0 := q2.c0
  have d1 := q2.c1
  have d2 := q2.c2
  have d3 := q2.f 0
  have d4 := q2.f 1
  have d5 := q2.f 2
  have d6 := q3.c0
  clear hT hzn bm1 bm2 bm x1 y1 t0 t1 t2 q1 q2 b0 hk hP hz
  go_wp2_with fail
  generalize ((w2.setCell ⟨q0, 0, none⟩ (.slice ad1 n1 cp1)).setCell ⟨q0, 1, none⟩ (.bool s1)).setCell ⟨q0, 2, none⟩ (.slice a1 l1 c1) = wc at *
  clear d0 d1 d2 d3 d4 d5 d6
  obtain ⟨wn, hsz, bn1, bn2, hTr, hK, hln⟩ := hTN
  obtain ⟨hrn, hTr⟩ := hTr
  rw [← hsz] at hqw
  replace hqw := hide hqw
  clear hsz
  go_loopw [16] (fun i wr => ∃ t : Nat, t ≤ n1 ∧ i = .int .i64 t ∧ (n1 = 0 ∨ ∃ g, ad1 = some ⟨g, 0, none⟩ ∧ SR wn wr g rs k0 t (B + n + 1) (l0 + (B + n + 1))) ∧ ZB wr p s0 a0 l0 c0 ∧ TB wr q0 ad1 n1 cp1 s1 a1 l1 c1 ∧ TB wr r none 0 0 false none 0 0 ∧ Kn wr ad1 s1 a1 l1 c1 k ∧ Hid (Below w.heap.size w wr) ∧ Hid (NW F wr ad1 n1 cp1 a1 l1 c1)) (fun i _ => n1 - (intOf i).toNat)
  case atStart =>
   refine ⟨0, Nat.zero_le _, rfl, ?_, x3, q3, y3, hK, grow_step bn2 bn1, hNW⟩
   rcases hTr with ⟨_, h⟩ | ⟨g, e, hg, hPQ⟩
   ·exact .inl h
   ·exact .inr ⟨g, e, sr_start hPQ hg bn2⟩
  case round =>
   obtain ⟨t, ht, rfl, hS, hx, hq, hy, hKr, kr, hNr⟩ := hrel
   by_cases htn : t < n1
   ·rcases hS with h | ⟨g, rfl, hS⟩
    ·omega
    ·obtain ⟨hgl, hg0, hbw, hrow⟩ := id hS
     obtain ⟨xr, ⟨e0, e1, e2⟩, ⟨f1, f2⟩, ev, hi, -, h6⟩ := hrow t (by omega)
     obtain ⟨hxr, hok⟩ := h6 (Nat.le_refl _)
     replace hxr := hide hxr
     clear h6 hrow ev
     have hls : l0 + xr.l ≤ l0 + (B + n + 1) := by have := hok.2.1; omega
     have hlx := hok.2.1
     go_wp2_with fail
     have z := pb_new wr xr.v xr.s xr.a xr.l xr.c
     have ka := below_alloc wr (.cells #[.int .i64 xr.v, .bool xr.s, .slice xr.a xr.l xr.c] 62)
     have hx2 := hx.below ka
     have hq2 := hq.below ka
     have hpg : p ≠ g := by have := hqw.out; omega
     have hqg : q0 ≠ g := by have := hqw.out; omega
     have hug : wr.heap.size ≠ g := by omega
     have hS2 := hS.below ka
     have hzx := ((hok.1.below hbw).below ka)
     have hk2 := (hkw.out.below kr.out).below ka
     replace hy := hy.below ka
     replace hKr := hide (And.intro (hKr.1.below ka) (fzn_below (hKr.2 g rfl) ka))
     replace kr := hide (grow_step ka kr.out)
     replace hNr := hide (hNr.out.below ka)
     clear e0 e1 e2 f1 f2 hx hq hS hbw ka
     generalize wr.alloc (.cells #[.int .i64 xr.v, .bool xr.s, .slice xr.a xr.l xr.c] 62) = wb at *
     generalize wr.heap.size = u at *
     have kd := grow_drew (Below.refl wb.heap.size wb)
     have hd : wb.grownBy wb.drew (some g) := ⟨rfl, rfl, rfl, Nat.le_refl _, fun _ _ _ => rfl⟩
     have hgw : g + 1 ≤ wb.drew.heap.size := hS2.1
     go_region_held3 (fun w' => w'.cell? ⟨p, 0, none⟩ = some (.bool s0) ∧ w'.cell? ⟨p, 1, none⟩ = some (.slice a0 l0 c0) ∧ w'.cell? ⟨q0, 0, none⟩ = some (.slice (some ⟨g, 0, none⟩) n1 cp1) ∧ w'.cell? ⟨u, 0, none⟩ = some (.int .i64 xr.v) ∧ w'.cell? ⟨u, 1, none⟩ = some (.bool xr.s) ∧ w'.cell? ⟨u, 2, none⟩ = some (.slice xr.a xr.l xr.c) ∧ wb.grownBy w' (some g))
      ((refine sk hx2 hq2 z hpg hqg hug ?_; assumption))
      (first | (go_at_call 48; refine (Fresh.zmul_n (B := g + 1) (Fresh.zm_of (Go.Proofs.Ytagjfhipjbpoiaa.Zm.below hk2 kd) hgw) (Fresh.zm_of (Go.Proofs.Ytagjfhipjbpoiaa.Zm.below hzx.zm kd) hgw) (by omega) (by omega)).mono ?_; rintro e w3 ⟨s3, a3, l3, c3, rfl, hz3, k3, hl3⟩; have hS3 := (hS2.below kd).below k3; obtain ⟨xx, ⟨-, g1, g2⟩, ⟨g3, g4⟩, -⟩ := hS3.2.2.2 t (by omega); have hg1 := gb_below hd k3; have hg2 : wb.grownBy ((w3.setCell ⟨g, t * 3 + 1, none⟩ (.bool s3)).setCell ⟨g, t * 3 + 2, none⟩ (.slice a3 l3 c3)) (some g) := gb_trans (gb_trans hg1 (gb_set _ _ _ _)) (gb_set _ _ _ _)))
     have hN4 := hide (nw_step ((hNr.out.below kd).below k3) (show t < n1 from htn) (zn_lc hz3) (fun hFg => (fzn_mono hz3 (Nat.le_succ_of_le hFg)).fr) (s := s3) (l' := l3))
     have hS4 := sr_step hS3 (show t < rs.length by omega) (s := s3) (a := a3) (l := l3) (c := c3) (by have := hxr.out; rw [← this]; exact hz3) (by omega)
     have hx4 := hx2.grown hg2 hpg
     have hq4 := hq2.grown hg2 hqg
     have hy4 := hy.grown hg2 (by have := hqw.out; omega)
     have hK4 := fzn_grown hKr.out.2 hg2 (Nat.lt_succ_self _)
     have kr4 := hide (below_grown kr.out hg2 (by have := hqw.out; have := hp.out; have := bn1.size; omega))
     clear hg2 hg1 g1 g2 g3 g4 hS3 hz3 k3 hKr hd kd hgw hS2 hzx hk2
     go_wp2_with fail
     exact ⟨⟨t + 1, by omega, by go_num, .inr ⟨g, rfl, hS4⟩, hx4, hq4, hy4, ⟨hK4.zn, fun g' e => by cases e; exact hK4⟩, kr4, hN4⟩, by simp [intOf]; omega⟩
   ·obtain rfl : t = n1 := by omega
    have m0 := hx.c0
    have m1 := hx.c1
    have m2 := hq.c1
    have m3 := hq.c2
    go_wp2_with fail
    have hFr := hide (Nat.le_trans hF0.out kr.out.size)
    refine (zmul_n (B := F) (zm_of (hkw.out.below kr.out) hFr.out) (zm_of hKr.1.zm hFr.out) (by omega) (by omega)).mono ?_
    rintro e w4 ⟨s4, a4, l4, c4, rfl, hz4, k4, hl4⟩
    have q4 := hq.below k4
    have y4 := hy.below k4
    have n0 := q4.c0
    have n2 := q4.c1
    have n3 := q4.c2
    have n4 := q4.f 1
    have n5 := q4.f 2
    have o0 := y4.c0
    have o1 := y4.c1
    have o2 := y4.c2
    have o3 := y4.f 0
    have o4 := y4.f 1
    have o5 := y4.f 2
    have hrq : r ≠ q0 := by have := hpr.out; omega
    have hqr : q0 ≠ r := by have := hpr.out; omega
    have q5 := tb_fin2 q4 s4 a4 l4 c4
    have g5 := kb_set w4 q0 (.bool s4) (.slice a4 l4 c4)
    have y5 := y4.grown g5 hrq
    have hN5 := hide ((((hNr.out.below k4).k (zn_lc hz4) hz4.fr).tb q4 g5).tb y5 (tb_set _ r (.slice ad1 t cp1) (.bool s4) (.slice a4 l4 c4)))
    have hz5 := (hz4.zn.grownU g5 (tb_noU q4)).grownU (tb_set _ r (.slice ad1 t cp1) (.bool s4) (.slice a4 l4 c4)) (tb_noU y5)
    have kr5 := hide (below_grown (below_grown (grow_step k4 kr.out) g5 hwq) (tb_set _ r (.slice ad1 t cp1) (.bool s4) (.slice a4 l4 c4)) (by have := hp.out; have := hpr.out; omega))
    have hPr : Hid (Pr (((((w4.setCell ⟨q0, 1, none⟩ (.bool s4)).setCell ⟨q0, 2, none⟩ (.slice a4 l4 c4)).setCell ⟨r, 0, none⟩ (.slice ad1 t cp1)).setCell ⟨r, 1, none⟩ (.bool s4)).setCell ⟨r, 2, none⟩ (.slice a4 l4 c4)) ad1 t (scl k0 (rs.map Raw.p)) (l0 + (B + n + 1))) := by
     refine ⟨by simpa [scl] using hrn, ?_⟩
     rcases hS with h | ⟨g, rfl, hS⟩
     ·exact .inl h
     ·have hg0 := hS.2.1
      exact .inr ⟨g, 0, rfl, se_pl ((((sr_se hS (by omega)).below k4).grown g5 (by have := hqw.out; omega)).grown (tb_set _ _ _ _ _) (by have := hqw.out; omega))⟩
    have hPn : Hid (Pn (((((w4.setCell ⟨q0, 1, none⟩ (.bool s4)).setCell ⟨q0, 2, none⟩ (.slice a4 l4 c4)).setCell ⟨r, 0, none⟩ (.slice ad1 t cp1)).setCell ⟨r, 1, none⟩ (.bool s4)).setCell ⟨r, 2, none⟩ (.slice a4 l4 c4)) ad1 t (scl k0 (rs.map Raw.p)) (l0 + (B + n + 1))) := by
     refine ⟨by simpa [scl] using hrn, ?_⟩
     rcases hS with h | ⟨g, rfl, hS⟩
     ·exact .inl h
     ·have hg0 := hS.2.1
      exact (se_pn ((((sr_se hS (by omega)).below k4).grown g5 (by have := hqw.out; omega)).grown (tb_set _ _ _ _ _) (by have := hqw.out; omega)) hrn).2
    clear hS k4 kr hKr hz4 hq hy hx m0 m1 m2 m3 bn1 bn2 hTr g5 q4 y4
    go_wp2
    refine bodyPost_ret (results_cell_row rfl _ _ r 27 _ (0, 0) _ rfl (tb_fin y5 ad1 t cp1 s4 a4 l4 c4) Try.underlying27 rfl (by kernel_rfl)) rfl ?_
    exact ⟨ad1, t, cp1, s4, a4, l4, c4, scl k0 (rs.map Raw.p), by simp, ⟨hPr.out, hz5.zm, by omega⟩, hn1, std_scl h0 hStd, fun v => by rw [csum_scl, csum_scl, hcs], kr5.out, hN5.out, hPn.out, hz5⟩
set_option maxRecDepth 100000 in
set_option maxHeartbeats 6400000 in
theorem tsub_n {F : Nat} {w : World} {ad : Option Addr} {n cp : Nat} {s : Bool} {a : Option Addr} {l c : Nat} {ps : List (Int × Int)} {k : Int} {ad2 : Option Addr} {n2 cp2 : Nat} {s2 : Bool} {a2 : Option Addr} {l2 c2 : Nat} {qs : List (Int × Int)} {k2 : Int} {B : Nat} (hF : F ≤ w.heap.size) (hP : Pr w ad n ps B) (hz : Go.Proofs.Ytagjfhipjbpoiaa.Zm w s a l c k) (hl : l ≤ B) (hP2 : Pr w ad2 n2 qs B) (hz2 : Go.Proofs.Ytagjfhipjbpoiaa.Zm w s2 a2 l2 c2 k2) (hl2 : l2 ≤ B) (hB : B + n2 + 3 + (n + n2) ≤ 536870912) :
  Calls Try.prog 22 #[.agg #[.slice ad n cp, .bool s, .slice a l c], .agg #[.slice ad2 n2 cp2, .bool s2, .slice a2 l2 c2]] w fun e w' => ∃ ad' n' cp' s' a' l' c' rs, e = .returned (.agg #[.slice ad' n' cp', .bool s', .slice a' l' c']) ∧ TN w w' ad' n' s' a' l' c' rs (k - k2) (B + n2 + 3 + (n + n2) + 2) ∧ n' ≤ n + n2 ∧ Std (rs.map Raw.p) ∧ (∀ v, csum (rs.map Raw.p) v = csum (ps ++ scl (-1) qs) v) ∧ NW F w' ad' n' cp' a' l' c' := by
 go_enter Try.func22, Try.ntmps22
 go_wp2_with fail
 have x := ((tb_new w ad n cp s a l c).below (below_alloc _ (.cells #[.slice ad2 n2 cp2, .bool s2, .slice a2 l2 c2] 27))).below (below_alloc _ (.cells #[.slice none 0 0, .bool false, .slice none 0 0] 27))
 have x2 := (tb_new (w.alloc (.cells #[.slice ad n cp, .bool s, .slice a l c] 27)) ad2 n2 cp2 s2 a2 l2 c2).below (below_alloc _ (.cells #[.slice none 0 0, .bool false, .slice none 0 0] 27))
 have y := tb_new ((w.alloc (.cells #[.slice ad n cp, .bool s, .slice a l c] 27)).alloc (.cells #[.slice ad2 n2 cp2, .bool s2, .slice a2 l2 c2] 27)) none 0 0 false none 0 0
 have b0 : Below w.heap.size w (((w.alloc (.cells #[.slice ad n cp, .bool s, .slice a l c] 27)).alloc (.cells #[.slice ad2 n2 cp2, .bool s2, .slice a2 l2 c2] 27)).alloc (.cells #[.slice none 0 0, .bool false, .slice none 0 0] 27)) := below_alloc' (below_alloc' (below_alloc _ _) _) _
 rw [show (w.alloc (.cells #[.slice ad n cp, .bool s, .slice a l c] 27)).heap.size = w.heap.size + 1 from by simp] at x2
 rw [show ((w.alloc (.cells #[.slice ad n cp, .bool s, .slice a l c] 27)).alloc (.cells #[.slice ad2 n2 cp2, .bool s2, .slice a2 l2 c2] 27)).heap.size = w.heap.size + 1 + 1 from by simp] at y
 generalize ((w.alloc (.cells #[.slice ad n cp, .bool s, .slice a l c] 27)).alloc (.cells #[.slice ad2 n2 cp2, .bool s2, .slice a2 l2 c2] 27)).alloc (.cells #[.slice none 0 0, .bool false, .slice none 0 0] 27) = wb at *
 have hpr : w.heap.size < w.heap.size + 1 + 1 := by omega
 have hpr2 : w.heap.size + 1 < w.heap.size + 1 + 1 := by omega
 replace hP := hP.below b0
 replace hz := hz.below b0
 replace hP2 := hP2.below b0
 replace hz2 := hz2.below b0
 have hFb := hide (Nat.le_trans hF b0.size)
 generalize hp : w.heap.size = p at *
 replace hp := hide hp
 generalize p + 1 = p2 at *
 generalize p2 + 1 = r at *
 have hrb := Nat.le_of_lt y.lt
 go_region_held3 (fun w' => w'.cell? ⟨p, 0, none⟩ = some (.slice ad n cp) ∧ w'.cell? ⟨p, 1, none⟩ = some (.bool s) ∧ w'.cell? ⟨p, 2, none⟩ = some (.slice a l c) ∧ w'.cell? ⟨p2, 0, none⟩ = some (.slice ad2 n2 cp2) ∧ w'.cell? ⟨p2, 1, none⟩ = some (.bool s2) ∧ w'.cell? ⟨p2, 2, none⟩ = some (.slice a2 l2 c2) ∧ Below r wb w')
  ((refine tk6 x x2 hpr hpr2 ?_; first | (refine Below.mono ?_ hrb; focus ((repeat' (first | with_reducible exact Below.refl _ _ | with_reducible assumption | with_reducible refine grow_step (by with_reducible assumption) ?_ | with_reducible refine grow_drew ?_ | with_reducible refine grow_alloc ?_ _ | with_reducible refine grow_drewN ?_ _)); done)) | (refine (((Below.mono ?_ hrb).setCell (Nat.le_refl _) _).setCell (Nat.le_refl _) _).setCell (Nat.le_refl _) _; focus ((repeat' (first | with_reducible exact Below.refl _ _ | with_reducible assumption | with_reducible refine grow_step (by with_reducible assumption) ?_ | with_reducible refine grow_drew ?_ | with_reducible refine grow_alloc ?_ _ | with_reducible refine grow_drewN ?_ _)); done))))
  (first | (go_at_call 49; refine (Go.Proofs.Ytagjfhipjbpoiaa.zof_n (-1) (by decide) (by decide) _).mono ?_; rintro e wA ⟨sA, aA, lA, cA, rfl, hzA, kA, hlA⟩) | (go_at_call 23; refine (Go.Proofs.Ytagjfhipjbpoiaa.tscale_n hzA.zm (by omega) (Pr.below hP2 (by (repeat' (first | with_reducible exact Below.refl _ _ | with_reducible assumption | with_reducible refine grow_step (by with_reducible assumption) ?_ | with_reducible refine grow_drew ?_ | with_reducible refine grow_alloc ?_ _ | with_reducible refine grow_drewN ?_ _)))) (Go.Proofs.Ytagjfhipjbpoiaa.Zm.below hz2 (by (repeat' (first | with_reducible exact Below.refl _ _ | with_reducible assumption | with_reducible refine grow_step (by with_reducible assumption) ?_ | with_reducible refine grow_drew ?_ | with_reducible refine grow_alloc ?_ _ | with_reducible refine grow_drewN ?_ _)))) hl2 (by omega)).mono ?_; rintro e wS ⟨ad3, n3, cp3, s3, a3, l3, c3, us, rfl, hTS, hnS, hStdS, hcsS, kS⟩) | (go_at_call 21; refine (tadd_n (F := F) (B := B + n2 + 3) (fle hFb.out (by (repeat' (first | with_reducible exact Below.refl _ _ | with_reducible assumption | with_reducible refine grow_step (by with_reducible assumption) ?_ | with_reducible refine grow_drew ?_ | with_reducible refine grow_alloc ?_ _ | with_reducible refine grow_drewN ?_ _)))) (Pr.mono (Pr.below hP (by (repeat' (first | with_reducible exact Below.refl _ _ | with_reducible assumption | with_reducible refine grow_step (by with_reducible assumption) ?_ | with_reducible refine grow_drew ?_ | with_reducible refine grow_alloc ?_ _ | with_reducible refine grow_drewN ?_ _)))) (by omega)) (Go.Proofs.Ytagjfhipjbpoiaa.Zm.below hz (by (repeat' (first | with_reducible exact Below.refl _ _ | with_reducible assumption | with_reducible refine grow_step (by with_reducible assumption) ?_ | with_reducible refine grow_drew ?_ | with_reducible refine grow_alloc ?_ _ | with_reducible refine grow_drewN ?_ _)))) (by omega) (Pr.mono hTS.1 (by omega)) hTS.2.1 (by have := hTS.2.2; omega) (by omega)).mono ?_; rintro e w2 ⟨ad', n', cp', s', a', l', c', rs, rfl, hT, hn', hStd, hcs, hNW⟩; replace hNW := hide hNW; have kR := hT.below; have kW := mid kR (show Below wb.heap.size wb _ by (repeat' (first | with_reducible exact Below.refl _ _ | with_reducible assumption | with_reducible refine grow_step (by with_reducible assumption) ?_ | with_reducible refine grow_drew ?_ | with_reducible refine grow_alloc ?_ _ | with_reducible refine grow_drewN ?_ _))); have y1' := TB.below y kW; have y' := y1'.below kR; have y0 := y'.c0; have y1 := y'.c1; have y2 := y'.c2; have y3 := y'.f 0; have y4 := y'.f 1; have y5 := y'.f 2))
 all_goals
  clear hP hP2 hz hz2
  go_wp2
  refine bodyPost_ret (results_cell_row rfl _ _ r 27 _ (0, 0) _ rfl (tb_fin y' ad' n' cp' s' a' l' c') Try.underlying27 rfl (by kernel_rfl)) rfl ?_
  have hTN := (tn_store (w := w) (hp.out.symm ▸ b0) kW hT y1' (by have := hp.out; omega) cp').mono (B' := B + n2 + 3 + (n + n2) + 2) (by omega)
  rw [show k + -1 * k2 = k - k2 by omega] at hTN
  exact ⟨ad', n', cp', s', a', l', c', rs, by simp, hTN, by omega, hStd, fun v => by rw [hcs, csum_append, csum_append, hcsS], hNW.out.tb y' (tb_set _ _ _ _ _)⟩
set_option maxRecDepth 100000 in
set_option maxHeartbeats 6400000 in
theorem tput_n {F : Nat} {w : World} {ad : Option Addr} {n cp : Nat} {s : Bool} {a : Option Addr} {l c : Nat} {ps : List (Int × Int)} {k : Int} {ad2 : Option Addr} {n2 cp2 : Nat} {s2 : Bool} {a2 : Option Addr} {l2 c2 : Nat} {qs : List (Int × Int)} {k2 : Int} {B : Nat} {v : Int} (hv : I64 v) (hF : F ≤ w.heap.size) (hP : Pr w ad n ps B) (hz : Go.Proofs.Ytagjfhipjbpoiaa.Zm w s a l c k) (hl : l ≤ B) (hP2 : Pr w ad2 n2 qs B) (hz2 : Go.Proofs.Ytagjfhipjbpoiaa.Zm w s2 a2 l2 c2 k2) (hl2 : l2 ≤ B) (hB : B + n + (B + n2 + 1) + (n + n2) ≤ 536870912) :
  Calls Try.prog 26 #[.agg #[.slice ad n cp, .bool s, .slice a l c], .int .i64 v, .agg #[.slice ad2 n2 cp2, .bool s2, .slice a2 l2 c2]] w fun e w' => ∃ ad' n' cp' s' a' l' c' rs, e = .returned (.agg #[.slice ad' n' cp', .bool s', .slice a' l' c']) ∧ TN w w' ad' n' s' a' l' c' rs (k + csum ps v * k2) (B + n + (B + n2 + 1) + (n + n2) + 2) ∧ n' ≤ n + n2 ∧ Std (rs.map Raw.p) ∧ (∀ u, csum (rs.map Raw.p) u = csum (wo v ps ++ scl (csum ps v) qs) u) ∧ NW F w' ad' n' cp' a' l' c' := by
 go_enter Try.func26, Try.ntmps26
 go_wp2_with fail
 have x := ((tb_new w ad n cp s a l c).below (below_alloc _ (.cells #[.slice ad2 n2 cp2, .bool s2, .slice a2 l2 c2] 27))).below (below_alloc _ (.cells #[.slice none 0 0, .bool false, .slice none 0 0] 27))
 have x2 := (tb_new (w.alloc (.cells #[.slice ad n cp, .bool s, .slice a l c] 27)) ad2 n2 cp2 s2 a2 l2 c2).below (below_alloc _ (.cells #[.slice none 0 0, .bool false, .slice none 0 0] 27))
 have y := tb_new ((w.alloc (.cells #[.slice ad n cp, .bool s, .slice a l c] 27)).alloc (.cells #[.slice ad2 n2 cp2, .bool s2, .slice a2 l2 c2] 27)) none 0 0 false none 0 0
 have b0 : Below w.heap.size w (((w.alloc (.cells #[.slice ad n cp, .bool s, .slice a l c] 27)).alloc (.cells #[.slice ad2 n2 cp2, .bool s2, .slice a2 l2 c2] 27)).alloc (.cells #[.slice none 0 0, .bool false, .slice none 0 0] 27)) := below_alloc' (below_alloc' (below_alloc _ _) _) _
 rw [show (w.alloc (.cells #[.slice ad n cp, .bool s, .slice a l c] 27)).heap.size = w.heap.size + 1 from by simp] at x2
 rw [show ((w.alloc (.cells #[.slice ad n cp, .bool s, .slice a l c] 27)).alloc (.cells #[.slice ad2 n2 cp2, .bool s2, .slice a2 l2 c2] 27)).heap.size = w.heap.size + 1 + 1 from by simp] at y
 generalize ((w.alloc (.cells #[.slice ad n cp, .bool s, .slice a l c] 27)).alloc (.cells #[.slice ad2 n2 cp2, .bool s2, .slice a2 l2 c2] 27)).alloc (.cells #[.slice none 0 0, .bool false, .slice none 0 0] 27) = wb at *
 have hpr : w.heap.size < w.heap.size + 1 + 1 := by omega
 have hpr2 : w.heap.size + 1 < w.heap.size + 1 + 1 := by omega
 replace hP := hP.below b0
 replace hz := hz.below b0
 replace hP2 := hP2.below b0
 replace hz2 := hz2.below b0
 have hFb := hide (Nat.le_trans hF b0.size)
 generalize hp : w.heap.size = p at *
 replace hp := hide hp
 generalize p + 1 = p2 at *
 generalize p2 + 1 = r at *
 have hrb := Nat.le_of_lt y.lt
 go_region_held3 (fun w' => w'.cell? ⟨p, 0, none⟩ = some (.slice ad n cp) ∧ w'.cell? ⟨p, 1, none⟩ = some (.bool s) ∧ w'.cell? ⟨p, 2, none⟩ = some (.slice a l c) ∧ w'.cell? ⟨p2, 0, none⟩ = some (.slice ad2 n2 cp2) ∧ w'.cell? ⟨p2, 1, none⟩ = some (.bool s2) ∧ w'.cell? ⟨p2, 2, none⟩ = some (.slice a2 l2 c2) ∧ Below r wb w')
  ((refine tk6 x x2 hpr hpr2 ?_; first | (refine Below.mono ?_ hrb; focus ((repeat' (first | with_reducible exact Below.refl _ _ | with_reducible assumption | with_reducible refine grow_step (by with_reducible assumption) ?_ | with_reducible refine grow_drew ?_ | with_reducible refine grow_alloc ?_ _ | with_reducible refine grow_drewN ?_ _)); done)) | (refine (((Below.mono ?_ hrb).setCell (Nat.le_refl _) _).setCell (Nat.le_refl _) _).setCell (Nat.le_refl _) _; focus ((repeat' (first | with_reducible exact Below.refl _ _ | with_reducible assumption | with_reducible refine grow_step (by with_reducible assumption) ?_ | with_reducible refine grow_drew ?_ | with_reducible refine grow_alloc ?_ _ | with_reducible refine grow_drewN ?_ _)); done))))
  (first | (go_at_call 24; refine (tcoef_n (Pr.below hP (by (repeat' (first | with_reducible exact Below.refl _ _ | with_reducible assumption | with_reducible refine grow_step (by with_reducible assumption) ?_ | with_reducible refine grow_drew ?_ | with_reducible refine grow_alloc ?_ _ | with_reducible refine grow_drewN ?_ _)))) (by omega)).mono ?_; rintro e wA ⟨sA, aA, lA, cA, rfl, hzA, hlA, kA⟩) | (go_at_call 23; refine (Go.Proofs.Ytagjfhipjbpoiaa.tscale_n (Go.Proofs.Ytagjfhipjbpoiaa.Zm.below hzA.zm (by (repeat' (first | with_reducible exact Below.refl _ _ | with_reducible assumption | with_reducible refine grow_step (by with_reducible assumption) ?_ | with_reducible refine grow_drew ?_ | with_reducible refine grow_alloc ?_ _ | with_reducible refine grow_drewN ?_ _)))) (by omega) (Pr.below hP2 (by (repeat' (first | with_reducible exact Below.refl _ _ | with_reducible assumption | with_reducible refine grow_step (by with_reducible assumption) ?_ | with_reducible refine grow_drew ?_ | with_reducible refine grow_alloc ?_ _ | with_reducible refine grow_drewN ?_ _)))) (Go.Proofs.Ytagjfhipjbpoiaa.Zm.below hz2 (by (repeat' (first | with_reducible exact Below.refl _ _ | with_reducible assumption | with_reducible refine grow_step (by with_reducible assumption) ?_ | with_reducible refine grow_drew ?_ | with_reducible refine grow_alloc ?_ _ | with_reducible refine grow_drewN ?_ _)))) hl2 (by omega)).mono ?_; rintro e wS ⟨ad3, n3, cp3, s3, a3, l3, c3, us, rfl, hTS, hnS, hStdS, hcsS, kS⟩) | (go_at_call 25; refine (Go.Proofs.Ytagjfhipjbpoiaa.twithout_n (Pr.below hP (by (repeat' (first | with_reducible exact Below.refl _ _ | with_reducible assumption | with_reducible refine grow_step (by with_reducible assumption) ?_ | with_reducible refine grow_drew ?_ | with_reducible refine grow_alloc ?_ _ | with_reducible refine grow_drewN ?_ _)))) (Go.Proofs.Ytagjfhipjbpoiaa.Zm.below hz (by (repeat' (first | with_reducible exact Below.refl _ _ | with_reducible assumption | with_reducible refine grow_step (by with_reducible assumption) ?_ | with_reducible refine grow_drew ?_ | with_reducible refine grow_alloc ?_ _ | with_reducible refine grow_drewN ?_ _)))) hl (by omega) hv).mono ?_; rintro e wO ⟨ad4, n4, cp4, s4, a4, l4, c4, rsO, rfl, hTO, hnO, hStdO, hcsO⟩; have kO := hTO.below; replace hTO := hTO.tw) | (go_at_call 21; refine (tadd_n (F := F) (B := B + n + (B + n2 + 1)) (fle hFb.out (by (repeat' (first | with_reducible exact Below.refl _ _ | with_reducible assumption | with_reducible refine grow_step (by with_reducible assumption) ?_ | with_reducible refine grow_drew ?_ | with_reducible refine grow_alloc ?_ _ | with_reducible refine grow_drewN ?_ _)))) (Pr.mono (Pr.below hTO.1 (by (repeat' (first | with_reducible exact Below.refl _ _ | with_reducible assumption | with_reducible refine grow_step (by with_reducible assumption) ?_ | with_reducible refine grow_drew ?_ | with_reducible refine grow_alloc ?_ _ | with_reducible refine grow_drewN ?_ _)))) (by omega)) (Go.Proofs.Ytagjfhipjbpoiaa.Zm.below hTO.2.1 (by (repeat' (first | with_reducible exact Below.refl _ _ | with_reducible assumption | with_reducible refine grow_step (by with_reducible assumption) ?_ | with_reducible refine grow_drew ?_ | with_reducible refine grow_alloc ?_ _ | with_reducible refine grow_drewN ?_ _)))) (by have := hTO.2.2; omega) (Pr.mono (Pr.below hTS.1 (by (repeat' (first | with_reducible exact Below.refl _ _ | with_reducible assumption | with_reducible refine grow_step (by with_reducible assumption) ?_ | with_reducible refine grow_drew ?_ | with_reducible refine grow_alloc ?_ _ | with_reducible refine grow_drewN ?_ _)))) (by omega)) (Go.Proofs.Ytagjfhipjbpoiaa.Zm.below hTS.2.1 (by (repeat' (first | with_reducible exact Below.refl _ _ | with_reducible assumption | with_reducible refine grow_step (by with_reducible assumption) ?_ | with_reducible refine grow_drew ?_ | with_reducible refine grow_alloc ?_ _ | with_reducible refine grow_drewN ?_ _)))) (by have := hTS.2.2; omega) (by omega)).mono ?_; rintro e w2 ⟨ad', n', cp', s', a', l', c', rs, rfl, hT, hn', hStd, hcs, hNW⟩; replace hNW := hide hNW; have kR := hT.below; have kW := mid kR (show Below wb.heap.size wb _ by (repeat' (first | with_reducible exact Below.refl _ _ | with_reducible assumption | with_reducible refine grow_step (by with_reducible assumption) ?_ | with_reducible refine grow_drew ?_ | with_reducible refine grow_alloc ?_ _ | with_reducible refine grow_drewN ?_ _))); have y1' := TB.below y kW; have y' := y1'.below kR; have y0 := y'.c0; have y1 := y'.c1; have y2 := y'.c2; have y3 := y'.f 0; have y4 := y'.f 1; have y5 := y'.f 2))
 all_goals
  clear hP hP2 hz hz2
  go_wp2
  refine bodyPost_ret (results_cell_row rfl _ _ r 27 _ (0, 0) _ rfl (tb_fin y' ad' n' cp' s' a' l' c') Try.underlying27 rfl (by kernel_rfl)) rfl ?_
  have hTN := (tn_store (w := w) (hp.out.symm ▸ b0) kW hT y1' (by have := hp.out; omega) cp').mono (B' := B + n + (B + n2 + 1) + (n + n2) + 2) (by omega)
  exact ⟨ad', n', cp', s', a', l', c', rs, by simp, hTN, by omega, hStd, fun u => by rw [hcs, csum_append, csum_append, hcsS, hcsO], hNW.out.tb y' (tb_set _ _ _ _ _)⟩
end Go.Proofs.Ytagjfhipjbpoiaa.Fresh

namespace Go.Proofs.Ytagjfhipjbpoiaa
open Go.RowKit Go.Sort Go.Shelf
open Tm

end Go.Proofs.Ytagjfhipjbpoiaa

namespace Go.Proofs.Ytagjfhipjbpoiaa
open Go.RowKit Go.Sort Go.Shelf
open Tm At

end Go.Proofs.Ytagjfhipjbpoiaa
