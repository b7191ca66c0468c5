/-
 Layer 5: Order.
-/
import Derived.Test.YtagjfhipjbpoiaaP17
namespace Go.Proofs.Ytagjfhipjbpoiaa
open Go.RowKit Go.Sort Go.Shelf
open Tm

/-- which of two lists of parts comes first -/
def ordL : List (Int × Int) → List (Int × Int) → Int
 | [], [] => 0
 | [], _ :: _ => -1
 | _ :: _, [] => 1
 | p :: ps, q :: qs => if ordQ p q ≠ 0 then ordQ p q else ordL ps qs
def ordT (ps qs : List (Int × Int)) (k k2 : Int) : Int := if ordL ps qs ≠ 0 then ordL ps qs else cmpI k k2

theorem ordL_drop {ps qs : List (Int × Int)} {t : Nat} (h1 : t < ps.length) (h2 : t < qs.length) : ordL (ps.drop t) (qs.drop t) = if ordQ ps[t] qs[t] ≠ 0 then ordQ ps[t] qs[t] else ordL (ps.drop (t + 1)) (qs.drop (t + 1)) := by
 rw [List.drop_eq_getElem_cons h1, List.drop_eq_getElem_cons h2]
 rfl
theorem ordL_left {ps qs : List (Int × Int)} {t : Nat} (h1 : t < ps.length) (h2 : qs.length ≤ t) : ordL (ps.drop t) (qs.drop t) = 1 := by
 rw [List.drop_eq_getElem_cons h1, List.drop_eq_nil_of_le h2]
 rfl
theorem ordL_right {ps qs : List (Int × Int)} {t : Nat} (h1 : ps.length ≤ t) (h2 : t < qs.length) : ordL (ps.drop t) (qs.drop t) = -1 := by
 rw [List.drop_eq_getElem_cons h2, List.drop_eq_nil_of_le h1]
 rfl
theorem ordL_both {ps qs : List (Int × Int)} {t : Nat} (h1 : ps.length ≤ t) (h2 : qs.length ≤ t) : ordL (ps.drop t) (qs.drop t) = 0 := by
 rw [List.drop_eq_nil_of_le h1, List.drop_eq_nil_of_le h2]
 rfl

set_option maxRecDepth 100000 in
set_option maxHeartbeats 3200000 in
theorem compareF_n {w : World} {ad : Option Addr} {n cp : Nat} {ps : List (Int × Int)} {ad2 : Option Addr} {n2 cp2 : Nat} {qs : List (Int × Int)} {B : Nat} (hP : Pr w ad n ps B) (hP2 : Pr w ad2 n2 qs B) (hn : n ≤ 536870912) (hB : B ≤ 1099511627776) :
  Calls Try.prog 66 #[.slice ad n cp, .slice ad2 n2 cp2, .func (.func 67) #[] #[]] w fun e w' => e = .returned (.int .i64 (ordL ps qs)) ∧ Below w.heap.size w w' := by
 obtain ⟨h1, hP⟩ := hP
 obtain ⟨h2, hP2⟩ := hP2
 have eg : ∀ args w, (callFunc 67 args).run Try.prog w = .ok (.enter 67 args) w := enters_of Try.func67 (by kernel_rfl) rfl
 go_enter Try.func66, Try.ntmps66
 go_wp2_with fail
 go_loopw [13] (fun i wr => ∃ t : Nat, t ≤ n ∧ i = .int .i64 t ∧ Hid (ordL ps qs = ordL (ps.drop t) (qs.drop t)) ∧ t ≤ n2 ∧ Below w.heap.size w wr) (fun i _ => n - (intOf i).toNat)
 case atStart => exact ⟨0, Nat.zero_le _, rfl, by show _ = _; simp, Nat.zero_le _, Below.refl _ _⟩
 case round =>
  obtain ⟨t, ht, rfl, hord, ht2, kr⟩ := hrel
  by_cases htn : t < n
  ·rcases hP with hP | ⟨b1, o1, rfl, hP⟩
   ·omega
   ·obtain ⟨s1, a1, l1, c1, e0, e1, e2, hz, hl1, hv⟩ := (hP.below kr).2 t (by omega)
    have ka := below_alloc wr (.cells #[.int .i64 ps[t].1, .bool s1, .slice a1 l1 c1] 62)
    by_cases htn2 : t < n2
    ·rcases hP2 with hP2 | ⟨b2, o2, rfl, hP2⟩
     ·omega
     ·obtain ⟨s2, a2, l2, c2, e3, e4, e5, hz2, hl2, hv2⟩ := (hP2.below kr).2 t (by omega)
      have hb2 := hP2.1
      have hlt : b2 < wr.heap.size := Nat.lt_of_lt_of_le hb2 kr.size
      have hdrop := hide (ordL_drop (ps := ps) (qs := qs) (t := t) (by omega) (by omega))
      generalize hpp : ps[t] = pp at *
      generalize hqq : qs[t] = qq at *
      have kb := below_alloc (wr.alloc (.cells #[.int .i64 pp.1, .bool s1, .slice a1 l1 c1] 62)) (.cells #[.int .i64 qq.1, .bool s2, .slice a2 l2 c2] 62)
      have kab := hide (grow_step kb ka)
      have hcall := order_g (v1 := pp.1) (v2 := qq.1) (hz.below kab.out) (hz2.below kab.out) (by omega) (by omega)
      replace hpp := hide hpp
      replace hqq := hide hqq
      clear ka kb
      go_wp2_with fail
      refine hcall.mono ?_
      rintro e w3 ⟨rfl, k3⟩
      replace k3 := hide (grow_step k3.b (grow_step kab.out kr))
      clear hcall kab
      rw [show ordQ (pp.1, pp.2) (qq.1, qq.2) = ordQ pp qq from rfl]
      by_cases ho : ordQ pp qq = 0
      ·have hnext := hide (hord.out.trans (hdrop.out.trans (by rw [if_neg (by simp [ho])])))
       rw [ho]
       go_wp2_with fail
       exact ⟨⟨t + 1, by omega, by go_num, hnext, by omega, k3.out⟩, by simp [intOf]; omega⟩
      ·have hval := hide (hord.out.trans (hdrop.out.trans (by rw [if_pos ho])))
       generalize ordQ pp qq = oo at *
       go_wp2
       go_ret
       exact ⟨ret_int hval.out.symm, k3.out⟩
    ·have hval := hide (hord.out.trans (ordL_left (ps := ps) (qs := qs) (t := t) (by omega) (by omega)))
     have kf := hide (grow_step ka kr)
     clear ka
     go_wp2
     go_ret
     exact ⟨ret_int hval.out.symm, kf.out⟩
  ·obtain rfl : t = n := by omega
   by_cases htn2 : t < n2
   ·have hval := hide (hord.out.trans (ordL_right (ps := ps) (qs := qs) (t := t) (by omega) (by omega)))
    go_wp2
    go_ret
    exact ⟨ret_int hval.out.symm, kr⟩
   ·have hval := hide (hord.out.trans (ordL_both (ps := ps) (qs := qs) (t := t) (by omega) (by omega)))
    go_wp2
    go_ret
    exact ⟨ret_int hval.out.symm, kr⟩

theorem Pr.tb {w w' : World} {p : Nat} {ad0 : Option Addr} {n0 cp0 : Nat} {s0 : Bool} {a0 : Option Addr} {l0 c0 : Nat} {ad : Option Addr} {n : Nat} {ps : List (Int × Int)} {B : Nat} (h : Pr w ad n ps B) (y : TB w p ad0 n0 cp0 s0 a0 l0 c0) (hg : w.grownBy w' (some p)) : Pr w' ad n ps B := by
 refine ⟨h.1, ?_⟩
 rcases h.2 with h2 | ⟨b, off, e, hb, h2⟩
 ·exact .inl h2
 ·by_cases h0 : ps.length = 0
  ·exact .inl (h.1.symm.trans h0)
  ·refine .inr ⟨b, off, e, Nat.lt_of_lt_of_le hb hg.size, fun i hi => ?_⟩
   obtain ⟨s, a, l, c, e0, e1, e2, hz, hl⟩ := h2 i hi
   have hne : b ≠ p := by
    intro e
    subst e
    rw [cell_of_row w b _ _ _ (0, 0) y] at e0
    match hk : off + i * 3, e0 with
    | 0, e0 => simp at e0
    | 1, e0 => simp at e0
    | 2, e0 => simp at e0
    | k + 3, e0 => simp at e0
   have eb : w'.heap[b]? = w.heap[b]? := hg.block b hb (by simpa using hne)
   exact ⟨s, a, l, c, (World.cell?_of_block (a := ⟨b, off + i * 3, none⟩) eb).trans e0, (World.cell?_of_block (a := ⟨b, off + i * 3 + 1, none⟩) eb).trans e1, (World.cell?_of_block (a := ⟨b, off + i * 3 + 2, none⟩) eb).trans e2, hz.grownU hg (tb_noU y), hl⟩
theorem TW.tb {w w' : World} {p : Nat} {ad0 : Option Addr} {n0 cp0 : Nat} {s0 : Bool} {a0 : Option Addr} {l0 c0 : Nat} {ad : Option Addr} {n : Nat} {s : Bool} {a : Option Addr} {l c : Nat} {ps : List (Int × Int)} {k : Int} {B : Nat} (h : TW w ad n s a l c ps k B) (y : TB w p ad0 n0 cp0 s0 a0 l0 c0) (hg : w.grownBy w' (some p)) : TW w' ad n s a l c ps k B :=
 ⟨h.1.tb y hg, h.2.1.grownU hg (tb_noU y), h.2.2⟩

def OrdF (w W' : World) (p q : Nat) (ad1 : Option Addr) (n1 cp1 : Nat) (s1 : Bool) (a1 : Option Addr) (l1 c1 : Nat) (rs : List (Int × Int)) (ad3 : Option Addr) (n3 cp3 : Nat) (s3 : Bool) (a3 : Option Addr) (l3 c3 : Nat) (rt : List (Int × Int)) (k k2 : Int) (B1 B2 n n2 : Nat) (ps qs : List (Int × Int)) : Prop :=
 TB W' p ad1 n1 cp1 s1 a1 l1 c1 ∧ TB W' q ad3 n3 cp3 s3 a3 l3 c3 ∧ TW W' ad1 n1 s1 a1 l1 c1 rs k B1 ∧ TW W' ad3 n3 s3 a3 l3 c3 rt k2 B2 ∧ n1 ≤ n ∧ n3 ≤ n2 ∧ Std rs ∧ Std rt ∧ (∀ v, csum rs v = csum ps v) ∧ (∀ v, csum rt v = csum qs v) ∧ Below w.heap.size w W'
theorem ord_end {w W : World} {p q : Nat} {ad0 : Option Addr} {n0 cp0 : Nat} {s0 : Bool} {a0 : Option Addr} {l0 c0 : Nat} {ad9 : Option Addr} {n9 cp9 : Nat} {s9 : Bool} {a9 : Option Addr} {l9 c9 : Nat} {ad1 : Option Addr} {n1 cp1 : Nat} {s1 : Bool} {a1 : Option Addr} {l1 c1 : Nat} {rs : List (Int × Int)} {ad3 : Option Addr} {n3 cp3 : Nat} {s3 : Bool} {a3 : Option Addr} {l3 c3 : Nat} {rt : List (Int × Int)} {k k2 : Int} {B1 B2 n n2 : Nat} {ps qs : List (Int × Int)}
  (x : TB W p ad0 n0 cp0 s0 a0 l0 c0) (y : TB W q ad9 n9 cp9 s9 a9 l9 c9) (t1 : TW W ad1 n1 s1 a1 l1 c1 rs k B1) (t3 : TW W ad3 n3 s3 a3 l3 c3 rt k2 B2) (kb : Below w.heap.size w W) (hpq : p ≠ q) (h1 : w.heap.size ≤ p) (h2 : w.heap.size ≤ q) (hn1 : n1 ≤ n) (hn3 : n3 ≤ n2) (hS1 : Std rs) (hS3 : Std rt) (hc1 : ∀ v, csum rs v = csum ps v) (hc3 : ∀ v, csum rt v = csum qs v) :
  OrdF w ((((((W.setCell ⟨p, 0, none⟩ (.slice ad1 n1 cp1)).setCell ⟨p, 1, none⟩ (.bool s1)).setCell ⟨p, 2, none⟩ (.slice a1 l1 c1)).setCell ⟨q, 0, none⟩ (.slice ad3 n3 cp3)).setCell ⟨q, 1, none⟩ (.bool s3)).setCell ⟨q, 2, none⟩ (.slice a3 l3 c3)) p q ad1 n1 cp1 s1 a1 l1 c1 rs ad3 n3 cp3 s3 a3 l3 c3 rt k k2 B1 B2 n n2 ps qs := by
 have g1 := tb_set W p (.slice ad1 n1 cp1) (.bool s1) (.slice a1 l1 c1)
 have x' := tb_fin x ad1 n1 cp1 s1 a1 l1 c1
 have y1 := y.grown g1 (Ne.symm hpq)
 have g2 := tb_set (((W.setCell ⟨p, 0, none⟩ (.slice ad1 n1 cp1)).setCell ⟨p, 1, none⟩ (.bool s1)).setCell ⟨p, 2, none⟩ (.slice a1 l1 c1)) q (.slice ad3 n3 cp3) (.bool s3) (.slice a3 l3 c3)
 exact ⟨x'.grown g2 hpq, tb_fin y1 ad3 n3 cp3 s3 a3 l3 c3, (t1.tb x g1).tb y1 g2, (t3.tb x g1).tb y1 g2, hn1, hn3, hS1, hS3, hc1, hc3, below_grown (below_grown kb g1 h1) g2 h2⟩
set_option maxRecDepth 100000 in
set_option maxHeartbeats 6400000 in
theorem torder_n {w : World} {ad : Option Addr} {n cp : Nat} {s : Bool} {a : Option Addr} {l c : Nat} {ps : List (Int × Int)} {k : Int} {ad2 : Option Addr} {n2 cp2 : Nat} {s2 : Bool} {a2 : Option Addr} {l2 c2 : Nat} {qs : List (Int × Int)} {k2 : Int} {B : Nat} (hP : Pr w ad n ps B) (hz : Zm w s a l c k) (hl : l ≤ B) (hP2 : Pr w ad2 n2 qs B) (hz2 : Zm w s2 a2 l2 c2 k2) (hl2 : l2 ≤ B) (hB : B + n ≤ 268435456) (hB2 : B + n2 ≤ 268435456) :
  Calls Try.prog 38 #[.agg #[.slice ad n cp, .bool s, .slice a l c], .agg #[.slice ad2 n2 cp2, .bool s2, .slice a2 l2 c2]] w fun e w' => ∃ ps' qs', e = .returned (.int .i64 (ordT ps' qs' k k2)) ∧ Std ps' ∧ Std qs' ∧ (∀ v, csum ps' v = csum ps v) ∧ (∀ v, csum qs' v = csum qs v) ∧ Below w.heap.size w w' := by
 go_enter Try.func38, Try.ntmps38
 go_wp2_with fail
 have x := (tb_new w ad n cp s a l c).below (below_alloc _ (.cells #[.slice ad2 n2 cp2, .bool s2, .slice a2 l2 c2] 27))
 have y := tb_new (w.alloc (.cells #[.slice ad n cp, .bool s, .slice a l c] 27)) ad2 n2 cp2 s2 a2 l2 c2
 have b0 : Below w.heap.size w ((w.alloc (.cells #[.slice ad n cp, .bool s, .slice a l c] 27)).alloc (.cells #[.slice ad2 n2 cp2, .bool s2, .slice a2 l2 c2] 27)) := below_alloc' (below_alloc _ _) _
 rw [show (w.alloc (.cells #[.slice ad n cp, .bool s, .slice a l c] 27)).heap.size = w.heap.size + 1 from by simp] at y
 generalize (w.alloc (.cells #[.slice ad n cp, .bool s, .slice a l c] 27)).alloc (.cells #[.slice ad2 n2 cp2, .bool s2, .slice a2 l2 c2] 27) = wb at *
 have hpr : w.heap.size < w.heap.size + 1 := by omega
 replace hP := hP.below b0
 replace hz := hz.below b0
 replace hP2 := hP2.below b0
 replace hz2 := hz2.below b0
 generalize hp : w.heap.size = p at *
 replace b0 : Hid (Below w.heap.size w wb) := hp ▸ b0
 replace hp := hide hp
 generalize p + 1 = q at *
 have hpq : p ≠ q := by omega
 have hqp : q ≠ p := by omega
 have x0 := x.c0
 have x1 := x.c1
 have x2 := x.c2
 have y0 := y.c0
 have y1 := y.c1
 have y2 := y.c2
 refine Code.wp_mono (Q := fun e a' W' => e = .normal ∧ ∃ ad1 n1 cp1 s1 a1 l1 c1 rs ad3 n3 cp3 s3 a3 l3 c3 rt, a' = ⟨#[.agg #[.slice ad n cp, .bool s, .slice a l c], .agg #[.slice ad2 n2 cp2, .bool s2, .slice a2 l2 c2], .pointer (some ⟨p, 0, none⟩), .pointer (some ⟨q, 0, none⟩), .int .i64 0, undef, .agg #[.slice ad n cp, .bool s, .slice a l c], .agg #[.slice ad1 n1 cp1, .bool s1, .slice a1 l1 c1], .agg #[.slice ad2 n2 cp2, .bool s2, .slice a2 l2 c2], .agg #[.slice ad3 n3 cp3, .bool s3, .slice a3 l3 c3], undef, undef, undef, undef, undef, undef, undef, undef, undef, undef, undef, undef, undef], []⟩ ∧ OrdF w W' p q ad1 n1 cp1 s1 a1 l1 c1 rs ad3 n3 cp3 s3 a3 l3 c3 rt k k2 (B + n + 1) (B + n2 + 1) n n2 ps qs) ?_ ?_
 ·rintro e a' W' ⟨rfl, ad1, n1, cp1, s1, a1, l1, c1, rs, ad3, n3, cp3, s3, a3, l3, c3, rt, rfl, hF⟩
  obtain ⟨hx, hy, ht1, ht3, hn1, hn3, hS1, hS3, hc1, hc3, kF⟩ := id hF
  have f0 := hx.c0
  have f1 := hx.c1
  have f2 := hx.c2
  have g0 := hy.c0
  have g1 := hy.c1
  have g2 := hy.c2
  replace kF := hide kF
  clear hF x0 x1 x2 y0 y1 y2 b0
  go_wp2_with fail
  refine (compareF_n (B := B + n + n2 + 1) (ht1.1.mono (by omega)) (ht3.1.mono (by omega)) (by omega) (by omega)).mono ?_
  rintro e w5 ⟨rfl, k5⟩
  have f3 := (hx.below k5).c1
  have f4 := (hx.below k5).c2
  have g3 := (hy.below k5).c1
  have g4 := (hy.below k5).c2
  by_cases ho : ordL rs rt = 0
  ·have hval := hide (show ordT rs rt k k2 = cmpI k k2 by simp [ordT, ho])
   rw [ho]
   replace ht1 := hide (ht1.below k5)
   replace ht3 := hide (ht3.below k5)
   replace k5 := hide (grow_step k5 kF.out)
   clear f0 f1 f2 g0 g1 g2
   go_wp2_with fail
   refine (zcmp_n ht1.out.2.1 ht3.out.2.1 (by have := ht1.out.2.2; omega) (by have := ht3.out.2.2; omega)).mono ?_
   rintro e w6 ⟨rfl, k6⟩
   replace k6 := hide (grow_step k6 k5.out)
   clear k5
   go_wp2
   go_ret
   exact ⟨rs, rt, ret_int hval.out.symm, hS1, hS3, hc1, hc3, k6.out⟩
  ·have hval := hide (show ordT rs rt k k2 = ordL rs rt by simp [ordT, ho])
   replace k5 := hide (grow_step k5 kF.out)
   clear f0 f1 f2 g0 g1 g2 f3 f4 g3 g4
   generalize ordL rs rt = oo at *
   go_wp2
   go_ret
   exact ⟨rs, rt, ret_int hval.out.symm, hS1, hS3, hc1, hc3, k5.out⟩
 ·refine wp_region_held_drew (S := fun _ => True) (by kernel_rfl) trivial (fun hHeld => ?_)
  show wpAnyH _ _ _ _ _ 6 _ _ _
  refine wpAnyH_ready (rs := [0, 2]) (by kernel_rfl) (by simp) ?_
  refine AllReadyH.cons (o := ⟨some 6, _, _, _, _, _⟩) rfl (fun K hK => ?_) ?_
  ·go_simp
   refine hK.out _ _ ?_ ?_
   ·(try dsimp only); (try trivial)
   clear hK K hHeld; intro hHeld
   (try simp only [Act.put, List.setIfInBounds_toArray, List.set_cons_zero, List.set_cons_succ])
   refine wpAnyH_ready (rs := [1, 2]) (by kernel_rfl) (by simp) ?_
   refine AllReadyH.cons (o := ⟨some 7, _, _, _, _, _⟩) rfl (fun K hK => ?_) ?_
   ·go_simp
    go_at_call 12; refine (tnorm_n (Pr.below hP (by (repeat' (first | with_reducible exact Below.refl _ _ | with_reducible assumption | with_reducible refine grow_step (by with_reducible assumption) ?_ | with_reducible refine grow_drew ?_ | with_reducible refine grow_alloc ?_ _ | with_reducible refine grow_drewN ?_ _)))) (Zm.below hz (by (repeat' (first | with_reducible exact Below.refl _ _ | with_reducible assumption | with_reducible refine grow_step (by with_reducible assumption) ?_ | with_reducible refine grow_drew ?_ | with_reducible refine grow_alloc ?_ _ | with_reducible refine grow_drewN ?_ _)))) hl (by omega)).mono ?_; rintro e wA ⟨ad1, n1, cp1, s1, a1, l1, c1, rs, rfl, hTA, hn1, hS1, hc1⟩; have kA := hTA.below; have tA := hTA.tw; have kkA : Below wb.heap.size wb wA := (by (repeat' (first | with_reducible exact Below.refl _ _ | with_reducible assumption | with_reducible refine grow_step (by with_reducible assumption) ?_ | with_reducible refine grow_drew ?_ | with_reducible refine grow_alloc ?_ _ | with_reducible refine grow_drewN ?_ _))); have xA := x.below kkA; have yA := y.below kkA; have xA0 := xA.c0; have xAf0 := xA.f 0; have xA1 := xA.c1; have xAf1 := xA.f 1; have xA2 := xA.c2; have xAf2 := xA.f 2; have yA0 := yA.c0; have yAf0 := yA.f 0; have yA1 := yA.c1; have yAf1 := yA.f 1; have yA2 := yA.c2; have yAf2 := yA.f 2
    (try go_wp2_with fail)
    refine hK.out _ _ ?_ ?_
    ·(try dsimp only); (try trivial)
    clear hK K hHeld; intro hHeld
    (try simp only [Act.put, List.setIfInBounds_toArray, List.set_cons_zero, List.set_cons_succ])
    refine wpAnyH_ready (rs := [2]) (by kernel_rfl) (by simp) ?_
    refine AllReadyH.cons (o := ⟨some 8, _, _, _, _, _⟩) rfl (fun K hK => ?_) ?_
    ·go_simp
     refine hK.out _ _ ?_ ?_
     ·(try dsimp only); (try trivial)
     clear hK K hHeld; intro hHeld
     (try simp only [Act.put, List.setIfInBounds_toArray, List.set_cons_zero, List.set_cons_succ])
     refine wpAnyH_ready (rs := [3]) (by kernel_rfl) (by simp) ?_
     refine AllReadyH.cons (o := ⟨some 9, _, _, _, _, _⟩) rfl (fun K hK => ?_) ?_
     ·go_simp
      go_at_call 12; refine (tnorm_n (Pr.below hP2 (by (repeat' (first | with_reducible exact Below.refl _ _ | with_reducible assumption | with_reducible refine grow_step (by with_reducible assumption) ?_ | with_reducible refine grow_drew ?_ | with_reducible refine grow_alloc ?_ _ | with_reducible refine grow_drewN ?_ _)))) (Zm.below hz2 (by (repeat' (first | with_reducible exact Below.refl _ _ | with_reducible assumption | with_reducible refine grow_step (by with_reducible assumption) ?_ | with_reducible refine grow_drew ?_ | with_reducible refine grow_alloc ?_ _ | with_reducible refine grow_drewN ?_ _)))) hl2 (by omega)).mono ?_; rintro e wB ⟨ad3, n3, cp3, s3, a3, l3, c3, rt, rfl, hTB, hn3, hS3, hc3⟩; have kB := hTB.below; have tB := hTB.tw; have kkB : Below wb.heap.size wb wB := (by (repeat' (first | with_reducible exact Below.refl _ _ | with_reducible assumption | with_reducible refine grow_step (by with_reducible assumption) ?_ | with_reducible refine grow_drew ?_ | with_reducible refine grow_alloc ?_ _ | with_reducible refine grow_drewN ?_ _))); have xB := x.below kkB; have yB := y.below kkB; have xB0 := xB.c0; have xBf0 := xB.f 0; have xB1 := xB.c1; have xBf1 := xB.f 1; have xB2 := xB.c2; have xBf2 := xB.f 2; have yB0 := yB.c0; have yBf0 := yB.f 0; have yB1 := yB.c1; have yBf1 := yB.f 1; have yB2 := yB.c2; have yBf2 := yB.f 2
      (try go_wp2_with fail)
      refine hK.out _ _ ?_ ?_
      ·(try dsimp only); (try trivial)
      clear hK K hHeld; intro hHeld
      (try simp only [Act.put, List.setIfInBounds_toArray, List.set_cons_zero, List.set_cons_succ])
      refine wpAnyH_ready (rs := [4]) (by kernel_rfl) (by simp) ?_
      refine AllReadyH.cons (o := ⟨none, _, _, _, _, _⟩) rfl (fun K hK => ?_) ?_
      ·go_simp
       refine hK.out _ _ ?_ ?_
       ·(try dsimp only); (try trivial)
       clear hK K hHeld; intro hHeld
       (try simp only [Act.put, List.setIfInBounds_toArray, List.set_cons_zero, List.set_cons_succ])
       refine wpAnyH_ready (rs := [5]) (by kernel_rfl) (by simp) ?_
       refine AllReadyH.cons (o := ⟨none, _, _, _, _, _⟩) rfl (fun K hK => ?_) ?_
       ·go_simp
        refine hK.out _ _ ?_ ?_
        ·(try dsimp only); (try trivial)
        clear hK K hHeld; intro hHeld
        (try simp only [Act.put, List.setIfInBounds_toArray, List.set_cons_zero, List.set_cons_succ])
        refine wpAnyH_done (by kernel_rfl) ?_ _
        (refine ⟨rfl, ad1, n1, cp1, s1, a1, l1, c1, rs.map Raw.p, ad3, n3, cp3, s3, a3, l3, c3, rt.map Raw.p, rfl, ?_⟩; first | exact ord_end xB yB (tA.below kB) tB (grow_step kkB b0.out) hpq (by have := hp.out; omega) (by have := hp.out; omega) hn1 hn3 hS1 hS3 hc1 hc3 | exact ord_end xA yA tA (tB.below kA) (grow_step kkA b0.out) hpq (by have := hp.out; omega) (by have := hp.out; omega) hn1 hn3 hS1 hS3 hc1 hc3 | exact ord_end' xB yB (tA.below kB) tB (grow_step kkB b0.out) hpq (by have := hp.out; omega) (by have := hp.out; omega) hn1 hn3 hS1 hS3 hc1 hc3 | exact ord_end' xA yA tA (tB.below kA) (grow_step kkA b0.out) hpq (by have := hp.out; omega) (by have := hp.out; omega) hn1 hn3 hS1 hS3 hc1 hc3)
       exact AllReadyH.nil
      exact AllReadyH.nil
     exact AllReadyH.nil
    exact AllReadyH.nil
   refine AllReadyH.cons (o := ⟨some 8, _, _, _, _, _⟩) rfl (fun K hK => ?_) ?_
   ·go_simp
    refine hK.out _ _ ?_ ?_
    ·(try dsimp only); (try trivial)
    clear hK K hHeld; intro hHeld
    (try simp only [Act.put, List.setIfInBounds_toArray, List.set_cons_zero, List.set_cons_succ])
    refine wpAnyH_ready (rs := [1]) (by kernel_rfl) (by simp) ?_
    refine AllReadyH.cons (o := ⟨some 7, _, _, _, _, _⟩) rfl (fun K hK => ?_) ?_
    ·go_simp
     go_at_call 12; refine (tnorm_n (Pr.below hP (by (repeat' (first | with_reducible exact Below.refl _ _ | with_reducible assumption | with_reducible refine grow_step (by with_reducible assumption) ?_ | with_reducible refine grow_drew ?_ | with_reducible refine grow_alloc ?_ _ | with_reducible refine grow_drewN ?_ _)))) (Zm.below hz (by (repeat' (first | with_reducible exact Below.refl _ _ | with_reducible assumption | with_reducible refine grow_step (by with_reducible assumption) ?_ | with_reducible refine grow_drew ?_ | with_reducible refine grow_alloc ?_ _ | with_reducible refine grow_drewN ?_ _)))) hl (by omega)).mono ?_; rintro e wA ⟨ad1, n1, cp1, s1, a1, l1, c1, rs, rfl, hTA, hn1, hS1, hc1⟩; have kA := hTA.below; have tA := hTA.tw; have kkA : Below wb.heap.size wb wA := (by (repeat' (first | with_reducible exact Below.refl _ _ | with_reducible assumption | with_reducible refine grow_step (by with_reducible assumption) ?_ | with_reducible refine grow_drew ?_ | with_reducible refine grow_alloc ?_ _ | with_reducible refine grow_drewN ?_ _))); have xA := x.below kkA; have yA := y.below kkA; have xA0 := xA.c0; have xAf0 := xA.f 0; have xA1 := xA.c1; have xAf1 := xA.f 1; have xA2 := xA.c2; have xAf2 := xA.f 2; have yA0 := yA.c0; have yAf0 := yA.f 0; have yA1 := yA.c1; have yAf1 := yA.f 1; have yA2 := yA.c2; have yAf2 := yA.f 2
     (try go_wp2_with fail)
     refine hK.out _ _ ?_ ?_
     ·(try dsimp only); (try trivial)
     clear hK K hHeld; intro hHeld
     (try simp only [Act.put, List.setIfInBounds_toArray, List.set_cons_zero, List.set_cons_succ])
     refine wpAnyH_ready (rs := [3]) (by kernel_rfl) (by simp) ?_
     refine AllReadyH.cons (o := ⟨some 9, _, _, _, _, _⟩) rfl (fun K hK => ?_) ?_
     ·go_simp
      go_at_call 12; refine (tnorm_n (Pr.below hP2 (by (repeat' (first | with_reducible exact Below.refl _ _ | with_reducible assumption | with_reducible refine grow_step (by with_reducible assumption) ?_ | with_reducible refine grow_drew ?_ | with_reducible refine grow_alloc ?_ _ | with_reducible refine grow_drewN ?_ _)))) (Zm.below hz2 (by (repeat' (first | with_reducible exact Below.refl _ _ | with_reducible assumption | with_reducible refine grow_step (by with_reducible assumption) ?_ | with_reducible refine grow_drew ?_ | with_reducible refine grow_alloc ?_ _ | with_reducible refine grow_drewN ?_ _)))) hl2 (by omega)).mono ?_; rintro e wB ⟨ad3, n3, cp3, s3, a3, l3, c3, rt, rfl, hTB, hn3, hS3, hc3⟩; have kB := hTB.below; have tB := hTB.tw; have kkB : Below wb.heap.size wb wB := (by (repeat' (first | with_reducible exact Below.refl _ _ | with_reducible assumption | with_reducible refine grow_step (by with_reducible assumption) ?_ | with_reducible refine grow_drew ?_ | with_reducible refine grow_alloc ?_ _ | with_reducible refine grow_drewN ?_ _))); have xB := x.below kkB; have yB := y.below kkB; have xB0 := xB.c0; have xBf0 := xB.f 0; have xB1 := xB.c1; have xBf1 := xB.f 1; have xB2 := xB.c2; have xBf2 := xB.f 2; have yB0 := yB.c0; have yBf0 := yB.f 0; have yB1 := yB.c1; have yBf1 := yB.f 1; have yB2 := yB.c2; have yBf2 := yB.f 2
      (try go_wp2_with fail)
      refine hK.out _ _ ?_ ?_
      ·(try dsimp only); (try trivial)
      clear hK K hHeld; intro hHeld
      (try simp only [Act.put, List.setIfInBounds_toArray, List.set_cons_zero, List.set_cons_succ])
      refine wpAnyH_ready (rs := [4]) (by kernel_rfl) (by simp) ?_
      refine AllReadyH.cons (o := ⟨none, _, _, _, _, _⟩) rfl (fun K hK => ?_) ?_
      ·go_simp
       refine hK.out _ _ ?_ ?_
       ·(try dsimp only); (try trivial)
       clear hK K hHeld; intro hHeld
       (try simp only [Act.put, List.setIfInBounds_toArray, List.set_cons_zero, List.set_cons_succ])
       refine wpAnyH_ready (rs := [5]) (by kernel_rfl) (by simp) ?_
       refine AllReadyH.cons (o := ⟨none, _, _, _, _, _⟩) rfl (fun K hK => ?_) ?_
       ·go_simp
        refine hK.out _ _ ?_ ?_
        ·(try dsimp only); (try trivial)
        clear hK K hHeld; intro hHeld
        (try simp only [Act.put, List.setIfInBounds_toArray, List.set_cons_zero, List.set_cons_succ])
        refine wpAnyH_done (by kernel_rfl) ?_ _
        (refine ⟨rfl, ad1, n1, cp1, s1, a1, l1, c1, rs.map Raw.p, ad3, n3, cp3, s3, a3, l3, c3, rt.map Raw.p, rfl, ?_⟩; first | exact ord_end xB yB (tA.below kB) tB (grow_step kkB b0.out) hpq (by have := hp.out; omega) (by have := hp.out; omega) hn1 hn3 hS1 hS3 hc1 hc3 | exact ord_end xA yA tA (tB.below kA) (grow_step kkA b0.out) hpq (by have := hp.out; omega) (by have := hp.out; omega) hn1 hn3 hS1 hS3 hc1 hc3 | exact ord_end' xB yB (tA.below kB) tB (grow_step kkB b0.out) hpq (by have := hp.out; omega) (by have := hp.out; omega) hn1 hn3 hS1 hS3 hc1 hc3 | exact ord_end' xA yA tA (tB.below kA) (grow_step kkA b0.out) hpq (by have := hp.out; omega) (by have := hp.out; omega) hn1 hn3 hS1 hS3 hc1 hc3)
       exact AllReadyH.nil
      exact AllReadyH.nil
     exact AllReadyH.nil
    exact AllReadyH.nil
   exact AllReadyH.nil
  refine AllReadyH.cons (o := ⟨some 8, _, _, _, _, _⟩) rfl (fun K hK => ?_) ?_
  ·go_simp
   refine hK.out _ _ ?_ ?_
   ·(try dsimp only); (try trivial)
   clear hK K hHeld; intro hHeld
   (try simp only [Act.put, List.setIfInBounds_toArray, List.set_cons_zero, List.set_cons_succ])
   refine wpAnyH_ready (rs := [0]) (by kernel_rfl) (by simp) ?_
   refine AllReadyH.cons (o := ⟨some 6, _, _, _, _, _⟩) rfl (fun K hK => ?_) ?_
   ·go_simp
    refine hK.out _ _ ?_ ?_
    ·(try dsimp only); (try trivial)
    clear hK K hHeld; intro hHeld
    (try simp only [Act.put, List.setIfInBounds_toArray, List.set_cons_zero, List.set_cons_succ])
    refine wpAnyH_ready (rs := [1]) (by kernel_rfl) (by simp) ?_
    refine AllReadyH.cons (o := ⟨some 7, _, _, _, _, _⟩) rfl (fun K hK => ?_) ?_
    ·go_simp
     go_at_call 12; refine (tnorm_n (Pr.below hP (by (repeat' (first | with_reducible exact Below.refl _ _ | with_reducible assumption | with_reducible refine grow_step (by with_reducible assumption) ?_ | with_reducible refine grow_drew ?_ | with_reducible refine grow_alloc ?_ _ | with_reducible refine grow_drewN ?_ _)))) (Zm.below hz (by (repeat' (first | with_reducible exact Below.refl _ _ | with_reducible assumption | with_reducible refine grow_step (by with_reducible assumption) ?_ | with_reducible refine grow_drew ?_ | with_reducible refine grow_alloc ?_ _ | with_reducible refine grow_drewN ?_ _)))) hl (by omega)).mono ?_; rintro e wA ⟨ad1, n1, cp1, s1, a1, l1, c1, rs, rfl, hTA, hn1, hS1, hc1⟩; have kA := hTA.below; have tA := hTA.tw; have kkA : Below wb.heap.size wb wA := (by (repeat' (first | with_reducible exact Below.refl _ _ | with_reducible assumption | with_reducible refine grow_step (by with_reducible assumption) ?_ | with_reducible refine grow_drew ?_ | with_reducible refine grow_alloc ?_ _ | with_reducible refine grow_drewN ?_ _))); have xA := x.below kkA; have yA := y.below kkA; have xA0 := xA.c0; have xAf0 := xA.f 0; have xA1 := xA.c1; have xAf1 := xA.f 1; have xA2 := xA.c2; have xAf2 := xA.f 2; have yA0 := yA.c0; have yAf0 := yA.f 0; have yA1 := yA.c1; have yAf1 := yA.f 1; have yA2 := yA.c2; have yAf2 := yA.f 2
     (try go_wp2_with fail)
     refine hK.out _ _ ?_ ?_
     ·(try dsimp only); (try trivial)
     clear hK K hHeld; intro hHeld
     (try simp only [Act.put, List.setIfInBounds_toArray, List.set_cons_zero, List.set_cons_succ])
     refine wpAnyH_ready (rs := [3]) (by kernel_rfl) (by simp) ?_
     refine AllReadyH.cons (o := ⟨some 9, _, _, _, _, _⟩) rfl (fun K hK => ?_) ?_
     ·go_simp
      go_at_call 12; refine (tnorm_n (Pr.below hP2 (by (repeat' (first | with_reducible exact Below.refl _ _ | with_reducible assumption | with_reducible refine grow_step (by with_reducible assumption) ?_ | with_reducible refine grow_drew ?_ | with_reducible refine grow_alloc ?_ _ | with_reducible refine grow_drewN ?_ _)))) (Zm.below hz2 (by (repeat' (first | with_reducible exact Below.refl _ _ | with_reducible assumption | with_reducible refine grow_step (by with_reducible assumption) ?_ | with_reducible refine grow_drew ?_ | with_reducible refine grow_alloc ?_ _ | with_reducible refine grow_drewN ?_ _)))) hl2 (by omega)).mono ?_; rintro e wB ⟨ad3, n3, cp3, s3, a3, l3, c3, rt, rfl, hTB, hn3, hS3, hc3⟩; have kB := hTB.below; have tB := hTB.tw; have kkB : Below wb.heap.size wb wB := (by (repeat' (first | with_reducible exact Below.refl _ _ | with_reducible assumption | with_reducible refine grow_step (by with_reducible assumption) ?_ | with_reducible refine grow_drew ?_ | with_reducible refine grow_alloc ?_ _ | with_reducible refine grow_drewN ?_ _))); have xB := x.below kkB; have yB := y.below kkB; have xB0 := xB.c0; have xBf0 := xB.f 0; have xB1 := xB.c1; have xBf1 := xB.f 1; have xB2 := xB.c2; have xBf2 := xB.f 2; have yB0 := yB.c0; have yBf0 := yB.f 0; have yB1 := yB.c1; have yBf1 := yB.f 1; have yB2 := yB.c2; have yBf2 := yB.f 2
      (try go_wp2_with fail)
      refine hK.out _ _ ?_ ?_
      ·(try dsimp only); (try trivial)
      clear hK K hHeld; intro hHeld
      (try simp only [Act.put, List.setIfInBounds_toArray, List.set_cons_zero, List.set_cons_succ])
      refine wpAnyH_ready (rs := [4]) (by kernel_rfl) (by simp) ?_
      refine AllReadyH.cons (o := ⟨none, _, _, _, _, _⟩) rfl (fun K hK => ?_) ?_
      ·go_simp
       refine hK.out _ _ ?_ ?_
       ·(try dsimp only); (try trivial)
       clear hK K hHeld; intro hHeld
       (try simp only [Act.put, List.setIfInBounds_toArray, List.set_cons_zero, List.set_cons_succ])
       refine wpAnyH_ready (rs := [5]) (by kernel_rfl) (by simp) ?_
       refine AllReadyH.cons (o := ⟨none, _, _, _, _, _⟩) rfl (fun K hK => ?_) ?_
       ·go_simp
        refine hK.out _ _ ?_ ?_
        ·(try dsimp only); (try trivial)
        clear hK K hHeld; intro hHeld
        (try simp only [Act.put, List.setIfInBounds_toArray, List.set_cons_zero, List.set_cons_succ])
        refine wpAnyH_done (by kernel_rfl) ?_ _
        (refine ⟨rfl, ad1, n1, cp1, s1, a1, l1, c1, rs.map Raw.p, ad3, n3, cp3, s3, a3, l3, c3, rt.map Raw.p, rfl, ?_⟩; first | exact ord_end xB yB (tA.below kB) tB (grow_step kkB b0.out) hpq (by have := hp.out; omega) (by have := hp.out; omega) hn1 hn3 hS1 hS3 hc1 hc3 | exact ord_end xA yA tA (tB.below kA) (grow_step kkA b0.out) hpq (by have := hp.out; omega) (by have := hp.out; omega) hn1 hn3 hS1 hS3 hc1 hc3 | exact ord_end' xB yB (tA.below kB) tB (grow_step kkB b0.out) hpq (by have := hp.out; omega) (by have := hp.out; omega) hn1 hn3 hS1 hS3 hc1 hc3 | exact ord_end' xA yA tA (tB.below kA) (grow_step kkA b0.out) hpq (by have := hp.out; omega) (by have := hp.out; omega) hn1 hn3 hS1 hS3 hc1 hc3)
       exact AllReadyH.nil
      exact AllReadyH.nil
     exact AllReadyH.nil
    exact AllReadyH.nil
   exact AllReadyH.nil
  exact AllReadyH.nil
end Go.Proofs.Ytagjfhipjbpoiaa
