/-
  Several texts in one: B8, B9, BC.
-/
import Derived.Test.YtjhhknfnaobmiaaGreatDoorJ10
import Derived.Test.YtjhhknfnaobmiaaGreatDoorJ20
import Derived.Test.YtjhhknfnaobmiaaGreatDoorJ5
import Derived.Test.YtjhhknfnaobmiaaGreatDoorJ8
import Derived.Test.YtjhhknfnaobmiaaGreatDoorZA
import Derived.Test.YtjhhknfnaobmiaaGreatDoorZ4
namespace Go.Proofs.YtjhhknfnaobmiaaGreatDoor
open Go.RowKit Go.Sort Go.Shelf
open Tm At

set_option maxRecDepth 100000 in
set_option maxHeartbeats 6400000 in
theorem adiv_n {w : World} {sd : Bool} {ad : Option Addr} {ld cd : Nat} {ap : Option Addr} {np cp : Nat} {sk : Bool} {ak : Option Addr} {lk ck : Nat} {d k : Int} {ps : List (Int × Int)} {B : Nat}
  (hd : Zm w sd ad ld cd d) (hld : ld ≤ B) (hP : Pr w ap np ps B) (hk : Zm w sk ak lk ck k) (hlk : lk ≤ B) (hn : np ≤ 262144) (hB : B + np + 1 ≤ 4194000) (hd0 : d ≠ 0) :
  Calls Tryz.prog 8 #[.agg #[.bool sd, .slice ad ld cd], .agg #[.slice ap np cp, .bool sk, .slice ak lk ck]] w fun e w' => ∃ qs, Std qs ∧ (∀ v, csum qs v = csum ps v) ∧ AE w' e (divF 3 d qs k) (B + np + 16) w.heap.size ∧ Below w.heap.size w w' := by
 go_enter Tryz.func8, Tryz.ntmps8
 go_wp2_with fail
 have y := AB.new ((w.alloc (.cells #[.bool sd, .slice ad ld cd] 24)).alloc (.cells #[.slice ap np cp, .bool sk, .slice ak lk ck] 27)) 0 false none 0 0 none 0 0 false none 0 0
 rw [show ((w.alloc (.cells #[.bool sd, .slice ad ld cd] 24)).alloc (.cells #[.slice ap np cp, .bool sk, .slice ak lk ck] 27)).heap.size = w.heap.size + 1 + 1 from by simp] at y
 have b0 : Below w.heap.size w (((w.alloc (.cells #[.bool sd, .slice ad ld cd] 24)).alloc (.cells #[.slice ap np cp, .bool sk, .slice ak lk ck] 27)).alloc (.cells #[.int .i64 0, .bool false, .slice none 0 0, .slice none 0 0, .bool false, .slice none 0 0] 29)) := below_alloc' (below_alloc' (below_alloc _ _) _) _
 generalize ((w.alloc (.cells #[.bool sd, .slice ad ld cd] 24)).alloc (.cells #[.slice ap np cp, .bool sk, .slice ak lk ck] 27)).alloc (.cells #[.int .i64 0, .bool false, .slice none 0 0, .slice none 0 0, .bool false, .slice none 0 0] 29) = wb at *
 have hr : w.heap.size ≤ w.heap.size + 1 + 1 := by omega
 generalize w.heap.size + 1 + 1 = r at *
 refine (anorm_n (kd := 3) (hd.below b0) hld (hP.below b0) (hk.below b0) hlk hn hB).mono ?_
 rintro e w1 ⟨qs, hS, hc, hA, k1⟩
 have hfm : formA 3 d qs k = .inl (divF 3 d qs k) := by unfold formA; rw [if_neg (by decide), if_neg (by decide), if_pos (by decide), if_neg hd0]
 rw [hfm] at hA
 clear hfm
 obtain ⟨sd1, ad1, ld1, cd1, ap1, np1, cp1, sk1, ak1, lk1, ck1, rfl, hz1, hlz1, hPn1, hnp1, hk1, hlk1, hnew1⟩ := hA
 generalize hff : divF 3 d qs k = ff at *
 replace hff := hide hff
 have hrl := y.lt
 have hbs := b0.size
 replace y := y.below k1
 have e0 := y.c0
 have e1 := y.c1
 have e2 := y.c2
 have e3 := y.c3
 have e4 := y.c4
 have e5 := y.c5
 have f0 := y.f 0
 have f1 := y.f 1
 have f2 := y.f 2
 have f3 := y.f 3
 have f4 := y.f 4
 have f5 := y.f 5
 have g6 := ab_set w1 r (.int .i64 ff.kind) (.bool sd1) (.slice ad1 ld1 cd1) (.slice ap1 np1 cp1) (.bool sk1) (.slice ak1 lk1 ck1)
 have hPf := hide (hPn1.away (fun b off e => by have := hnew1 b off e; omega) g6 (ab_noU y))
 have hzf := hide (hk1.grownU g6 (ab_noU y))
 have hdf := hide (hz1.grownU g6 (ab_noU y))
 have kf := hide (below_grown (grow_step k1 b0) g6 hr)
 have hnw : Hid (∀ b off, ap1 = some ⟨b, off, none⟩ → w.heap.size ≤ b) := (fun b off e => by have h1 := hnew1 b off e; omega)
 replace hS := hide hS
 replace hc := hide hc
 clear g6 hPn1 hk1 hz1 hnew1 hP hd hk b0 k1
 go_wp2
 refine bodyPost_ret (results_ct rfl _ _ r 29 _ (0, 0) _ rfl (ab_fin y ff.kind sd1 ad1 ld1 cd1 ap1 np1 cp1 sk1 ak1 lk1 ck1) Tryz.underlying29 rfl (by kernel_rfl)) rfl ?_
 refine ⟨qs, hS.out, hc.out, ?_, kf.out⟩
 rw [hff.out]
 exact ⟨sd1, ad1, ld1, cd1, ap1, np1, cp1, sk1, ak1, lk1, ck1, by simp, hdf.out, hlz1, hPf.out, hnp1, hzf.out, hlk1, hnw.out⟩

set_option maxRecDepth 100000 in
set_option maxHeartbeats 1600000 in
theorem itoa_small (i : Nat) (h : i < 100) (w : World) :
  Calls Tryz.prog 120 #[.int .i64 i] w fun e w' => e = .returned (.string ⟨(Lib.decDigits i).toArray⟩) ∧ Below w.heap.size w w' := by
 have hf : Calls Tryz.prog 154 #[.int .i64 i, .int .i64 10] w fun e w' => e = .returned (.string ⟨(Lib.decDigits i).toArray⟩) ∧ Below w.heap.size w w' := by
  go_enter Tryz.func154, Tryz.ntmps154
  go_wp2_with (go_at_call 174; refine (small_lay i h _).mono ?_; rintro e w' ⟨rfl, rfl⟩)
  go_ret
  exact ⟨rfl, Below.refl _ _⟩
 have hi : Calls Tryz.prog 143 #[.int .i64 i] w fun e w' => e = .returned (.string ⟨(Lib.decDigits i).toArray⟩) ∧ Below w.heap.size w w' := by
  go_enter Tryz.func143, Tryz.ntmps143
  go_wp2_with fail
  refine hf.mono ?_
  rintro e w' ⟨rfl, hb⟩
  go_wp2
  go_ret
  exact ⟨rfl, hb⟩
 go_enter Tryz.func120, Tryz.ntmps120
 go_wp2_with fail
 refine hi.mono ?_
 rintro e w' ⟨rfl, hb⟩
 go_wp2
 go_ret
 exact ⟨rfl, hb⟩

set_option maxRecDepth 100000 in
set_option maxHeartbeats 1600000 in
theorem sign6_n {w : World} {s : Bool} {a : Option Addr} {l c : Nat} : Calls Tryz.prog 119 #[.agg #[.bool s, .slice a l c]] w fun e w' => e = .returned (.string ⟨#[if s then 45 else 43]⟩) ∧ Below w.heap.size w w' := by
 have hk := below_alloc w (.cells #[.bool s, .slice a l c] 24)
 cases s with
 | true =>
  go_enter Tryz.func119, Tryz.ntmps119
  go_wp2
  go_ret
  exact ⟨rfl, hk⟩
 | false =>
  go_enter Tryz.func119, Tryz.ntmps119
  go_wp2
  go_ret
  exact ⟨rfl, hk⟩

theorem ztext_one : zText (((1 : Int).natAbs : Nat) : Int) = ⟨#[49]⟩ := by
 unfold zText
 rw [if_neg (by decide)]
 show (⟨(Lib.decDigits 1).toArray⟩ : ByteArray) = _
 rw [Lib.decDigits_one (by decide)]
 rfl
theorem dec_sm6 {v : Nat} (h : v < 100) : (Lib.decDigits v).length ≤ 2 := by
 by_cases h1 : v < 10
 ·rw [Lib.decDigits_one h1]; simp
 ·rw [Lib.decDigits_two h1 h]; simp

theorem ba_cons (x : UInt8) (D : List UInt8) : (⟨#[x]⟩ ++ ⟨D.toArray⟩ : ByteArray) = ⟨(x :: D).toArray⟩ := by
 apply ByteArray.ext
 simp [ByteArray.data_append]
theorem Zn.plus {w : World} {s : Bool} {a : Option Addr} {l c : Nat} {z : Int} (h : Zn w s a l c z) (hz : 0 ≤ z) : s = false := by
 obtain ⟨n, hn, rfl, h0⟩ := h
 cases s with
 | false => rfl
 | true =>
  have h1 := hn.nm.nonneg
  have h2 := h0 rfl
  simp [sg] at hz
  omega

set_option maxRecDepth 100000 in
set_option maxHeartbeats 6400000 in
/-- the text of a term of one part, of the coefficient 1 -/
theorem termText_one {w : World} {ap : Option Addr} {cp : Nat} {sk : Bool} {ak : Option Addr} {lk ck : Nat} {k : Int} {v B : Nat} (hP : Pn w ap 1 [((v : Int), 1)] B) (hk : Zn w sk ak lk ck k) (hlk : lk ≤ B) (hB : B ≤ 1048576) (hv : v < 100) (hk0 : 0 ≤ k) (htab : Tab w) :
  Calls Tryz.prog 71 #[.agg #[.slice ap 1 cp, .bool sk, .slice ak lk ck]] w fun e w' => e = .returned (.string ⟨(118 :: Lib.decDigits v ++ if k = 0 then [] else 43 :: Lib.decDigits k.toNat).toArray⟩) ∧ Below w.heap.size w w' := by
 go_enter Tryz.func71, Tryz.ntmps71
 go_wp2_with fail
 have x := (tb_new w ap 1 cp sk ak lk ck).below (below_alloc _ (.cells #[.pointer none, .slice none 0 0] 111))
 have hbu := builder_new 111 5 (w.alloc (.cells #[.slice ap 1 cp, .bool sk, .slice ak lk ck] 27))
 rw [show (w.alloc (.cells #[.slice ap 1 cp, .bool sk, .slice ak lk ck] 27)).heap.size = w.heap.size + 1 from by simp] at hbu
 have hsz : w.heap.size + 1 + 1 ≤ ((w.alloc (.cells #[.slice ap 1 cp, .bool sk, .slice ak lk ck] 27)).alloc (.cells #[.pointer none, .slice none 0 0] 111)).heap.size := by simp
 have b0 : Below w.heap.size w ((w.alloc (.cells #[.slice ap 1 cp, .bool sk, .slice ak lk ck] 27)).alloc (.cells #[.pointer none, .slice none 0 0] 111)) := below_alloc' (below_alloc _ _) _
 generalize ((w.alloc (.cells #[.slice ap 1 cp, .bool sk, .slice ak lk ck] 27)).alloc (.cells #[.pointer none, .slice none 0 0] 111)) = wb at *
 have hr1 : w.heap.size < w.heap.size + 1 := by omega
 have hrb : w.heap.size + 1 + 1 ≤ wb.heap.size := hsz
 generalize w.heap.size + 1 = r at *
 generalize hp : w.heap.size = p at *
 replace hp := hide hp
 replace b0 : Hid (Below w.heap.size w wb) := hp.out.symm ▸ b0
 go_loopw [10] (fun i wr => ((i = .int .i64 0 ∧ Lib.IsBuilder 111 5 r r (Lib.byteCells []) wr) ∨ (i = .int .i64 1 ∧ Lib.IsBuilder 111 5 r r (Lib.byteCells (118 :: Lib.decDigits v)) wr)) ∧ Hid (Below r wb wr)) (fun i _ => 1 - (intOf i).toNat)
 case atStart => exact ⟨.inl ⟨rfl, hbu⟩, Below.refl _ _⟩
 case round =>
  obtain ⟨hcase, kr⟩ := hrel
  clear hbu
  have kw : Hid (Below w.heap.size w wr) := b0.out.trans (kr.out.mono (by have := hp.out; omega))
  have hrw : r + 1 ≤ wr.heap.size := Nat.le_trans hrb kr.out.size
  have xr : TB wr p ap 1 cp sk ak lk ck := (kr.out.block p hr1).trans x
  rcases hcase with ⟨rfl, hbu⟩ | ⟨rfl, hbu⟩
  ·obtain ⟨-, hPP⟩ := hP.below kw.out
   rcases hPP with h0 | ⟨bp, op, rfl, hbp, hPP⟩
   ·omega
   obtain ⟨s, a, l, c, e0, e1, e2, hz, hl, -⟩ := hPP 0 (by simp)
   rw [show ([((v : Int), (1 : Int))] : List (Int × Int))[0] = ((v : Int), 1) from rfl] at e0 hz
   dsimp only at e0 hz
   rw [Nat.zero_mul, Nat.add_zero] at e0 e1 e2
   obtain rfl := hz.plus (by decide)
   have pb := pb_new wr v false a l c
   have kp := below_alloc wr (.cells #[.int .i64 v, .bool false, .slice a l c] 71)
   have hbup := builder_below hbu kp
   have HH := hide (And.intro pb (And.intro kp (And.intro hbup (hz.below kp))))
   clear pb kp hbup hPP
   go_wp2_with fail
   obtain ⟨pb, kp, hbup, hzp⟩ := HH.out
   clear HH hbu hz e0 e1 e2
   have hqr : r + 1 ≤ (wr.alloc (.cells #[.int .i64 v, .bool false, .slice a l c] 71)).heap.size := Nat.le_trans hrw kp.size
   replace kr := hide (kr.out.trans (kp.mono (by omega)))
   generalize wr.alloc (.cells #[.int .i64 v, .bool false, .slice a l c] 71) = wp at *
   refine (abs_n hzp.zm (by omega)).mono ?_
   rintro e w1 ⟨s1, a1, l1, c1, rfl, hz1, k1, hl1⟩
   replace hbup := builder_below hbup k1
   replace pb := pb.below9 k1
   replace kr := hide (kr.out.trans (k1.mono (by omega)))
   have hq1 : r + 1 ≤ w1.heap.size := Nat.le_trans hqr k1.size
   have ht1 : Tab w1 := htab.below (b0.out.trans (kr.out.mono (by have := hp.out; omega)))
   clear k1 hzp kp
   go_wp2_with fail
   refine (ztext_n hz1.zm (by omega) ht1).mono ?_
   rintro e w2 ⟨rfl, k2⟩
   rw [ztext_one]
   replace hbup := builder_below hbup k2
   replace pb := pb.below9 k2
   replace kr := hide (kr.out.trans (k2.mono (by omega)))
   have hq2 : r + 1 ≤ w2.heap.size := Nat.le_trans hq1 k2.size
   clear k2 hz1 ht1
   have q0 := pb.c0
   go_wp2_with fail
   refine (itoa_small v hv _).mono ?_
   rintro e w3 ⟨rfl, k3⟩
   replace hbup := builder_below hbup k3
   replace kr := hide (kr.out.trans (k3.mono (by omega)))
   have hq3 : r + 1 ≤ w3.heap.size := Nat.le_trans hq2 k3.size
   have hd2 := dec_sm6 hv
   clear k3 q0
   generalize hD : Lib.decDigits v = D at *
   go_wp2_with fail
   rw [ba_cons]
   refine (write_lay r r _ _ w3 hbup (by rw [Lib.byteCells_length, size_list]; simp; omega) (by omega)).mono ?_
   rintro e w4 ⟨rfl, hbu4, k4⟩
   rw [strCells_list, byteCells_append, List.nil_append] at hbu4
   have kr4 := hide (kr.out.trans k4)
   clear hbup k4 kr
   go_wp2
   go_round
   case rel => exact ⟨.inr ⟨rfl, .inr (by rw [hD]; exact hbu4)⟩, kr4.out⟩
   case measure => simp [intOf]
  ·have q1 := xr.c1
   have q2 := xr.c2
   go_wp2_with fail
   have hkr := hk.below kw.out
   refine (zsign_n hkr.zm (by omega)).mono ?_
   rintro e w1 ⟨rfl, k1⟩
   have hbu1 := builder_below hbu k1
   have x1 := xr.below k1
   have hk1 := hkr.below k1
   have hq1 : r + 1 ≤ w1.heap.size := Nat.le_trans hrw k1.size
   have kr1 := hide (kr.out.trans (k1.mono (by omega)))
   clear hbu xr hkr k1 q1 q2 kr
   by_cases hk00 : k = 0
   ·subst hk00
    rw [show cmpI 0 0 = 0 from rfl]
    go_wp2_with fail
    refine (string_lay _ _ _ w1 hbu1 (by omega)).mono ?_
    rintro e w2 ⟨rfl, k2⟩
    have kf : Hid (Below w.heap.size w w2) := (b0.out.trans ((kr1.out.trans k2).mono (by have := hp.out; omega)))
    clear k2
    go_wp2
    go_ret
    exact ⟨by first | rfl | simp, kf.out⟩
   ·rw [show cmpI k 0 = 1 from cmpI_gt (by omega)]
    obtain rfl := hk1.plus hk0
    have ht1 : Tab w1 := htab.below (b0.out.trans (kr1.out.mono (by have := hp.out; omega)))
    obtain ⟨n9, h9, h8, -⟩ := id hk1
    have hkn : Nm w1 ak lk ck k := by
     have h7 : k = n9 := by simpa [sg] using h8
     rw [h7]; exact h9.nm
    have hdl := dec_bound hkn
    have hzt : Hid (zText ((k.natAbs : Nat) : Int) = ⟨(Lib.decDigits k.toNat).toArray⟩) := (show _ = _ by unfold zText; rw [if_neg (by omega)]; congr 3; omega)
    have hres : Hid ((118 :: (Lib.decDigits v ++ if k = 0 then [] else 43 :: Lib.decDigits k.toNat)) = 118 :: Lib.decDigits v ++ (43 :: Lib.decDigits k.toNat)) := (show _ = _ by rw [if_neg hk00]; rfl)
    clear hkn h9 h8
    generalize hDk : Lib.decDigits k.toNat = D at *
    replace hDk := hide hDk
    replace hdl : D.length ≤ 10485770 := by omega
    have hrle : r ≤ w1.heap.size := by omega
    have hdv := dec_sm6 hv
    go_wp2_with fail
    have q1 := x1.c1
    have q2 := x1.c2
    go_region_with (first | (go_at_call 119; with_reducible refine (sign6_n).mono ?_; rintro e w2 ⟨rfl, hg2⟩; have q3 := (TB.below x1 (show Below w1.heap.size w1 w2 by (repeat' (first | with_reducible exact Below.refl _ _ | with_reducible assumption | with_reducible refine grow_step (by with_reducible assumption) ?_ | with_reducible refine grow_drew ?_ | with_reducible refine grow_alloc ?_ _ | with_reducible refine grow_drewN ?_ _)))).c1; have q4 := (TB.below x1 (show Below w1.heap.size w1 w2 by (repeat' (first | with_reducible exact Below.refl _ _ | with_reducible assumption | with_reducible refine grow_step (by with_reducible assumption) ?_ | with_reducible refine grow_drew ?_ | with_reducible refine grow_alloc ?_ _ | with_reducible refine grow_drewN ?_ _)))).c2) | (go_at_call 94; with_reducible refine (abs_n (Zn.zm (Zn.below hk1 (by (repeat' (first | with_reducible exact Below.refl _ _ | with_reducible assumption | with_reducible refine grow_step (by with_reducible assumption) ?_ | with_reducible refine grow_drew ?_ | with_reducible refine grow_alloc ?_ _ | with_reducible refine grow_drewN ?_ _))))) (by omega)).mono ?_; rintro e w3 ⟨s3, a3, l3, c3, rfl, hz3, hg3, hl3⟩) | (go_at_call 72; with_reducible refine (ztext_n (Zn.zm (Zn.below hz3 (by (repeat' (first | with_reducible exact Below.refl _ _ | with_reducible assumption | with_reducible refine grow_step (by with_reducible assumption) ?_ | with_reducible refine grow_drew ?_ | with_reducible refine grow_alloc ?_ _ | with_reducible refine grow_drewN ?_ _))))) (by omega) (Tab.below ht1 (by (repeat' (first | with_reducible exact Below.refl _ _ | with_reducible assumption | with_reducible refine grow_step (by with_reducible assumption) ?_ | with_reducible refine grow_drew ?_ | with_reducible refine grow_alloc ?_ _ | with_reducible refine grow_drewN ?_ _))))).mono ?_; rintro e w4 ⟨rfl, hg4⟩; rw [hzt.out]) | (go_at_call 118; refine (write_lay r r _ _ _ (builder_below hbu1 (by (repeat' (first | with_reducible exact Below.refl _ _ | with_reducible assumption | with_reducible refine grow_step (by with_reducible assumption) ?_ | with_reducible refine grow_drew ?_ | with_reducible refine grow_alloc ?_ _ | with_reducible refine grow_drewN ?_ _)))) (by rw [Lib.byteCells_length, ba_cons, size_list]; simp; omega) (Nat.le_trans hrle (Below.size (show Below w1.heap.size w1 _ by (repeat' (first | with_reducible exact Below.refl _ _ | with_reducible assumption | with_reducible refine grow_step (by with_reducible assumption) ?_ | with_reducible refine grow_drew ?_ | with_reducible refine grow_alloc ?_ _ | with_reducible refine grow_drewN ?_ _)))))).mono ?_; rintro e w5 ⟨rfl, hbu5, hW⟩))
    all_goals
     rw [ba_cons, strCells_list, byteCells_append, ← hres.out] at hbu5
     have kw5 : Below r w1 w5 := Below.trans (Below.mono (show Below w1.heap.size w1 w4 by (repeat' (first | with_reducible exact Below.refl _ _ | with_reducible assumption | with_reducible refine grow_step (by with_reducible assumption) ?_ | with_reducible refine grow_drew ?_ | with_reducible refine grow_alloc ?_ _ | with_reducible refine grow_drewN ?_ _))) hrle) hW
     have hs5 : r ≤ w5.heap.size := Nat.le_trans hrle kw5.size
     have kr5 := hide (kr1.out.trans kw5)
     clear kw5 hW hg2 hg3 hg4 hbu1 kr1
     go_wp2_with fail
     refine (string_lay _ _ _ w5 (.inr hbu5) hs5).mono ?_
     rintro e w6 ⟨rfl, k6⟩
     have kf : Hid (Below w.heap.size w w6) := (b0.out.trans ((kr5.out.trans k6).mono (by have := hp.out; omega)))
     clear k6
     go_wp2
     go_ret
     exact ⟨by simp; exact hDk.out.symm, kf.out⟩
end Go.Proofs.YtjhhknfnaobmiaaGreatDoor

namespace Go.Proofs.YtjhhknfnaobmiaaGreatDoor
open Go.RowKit Go.Sort Go.Shelf
open Tm At

/-- the form of 'v0 times 4 is divided by -6' -/
theorem form_div : divF 3 (-6) [(0, 4)] 0 = ⟨3, 3, [(0, 1)], 0⟩ := by rfl
theorem form_less : lessF [(1, 2)] 3 = ⟨2, 0, [(1, 1)], 2⟩ := by rfl
theorem form_div2 : divF 3 3 [(0, 1)] 0 = ⟨3, 3, [(0, 1)], 0⟩ := by rfl
theorem form_less2 : lessF [(1, 1)] 2 = ⟨2, 0, [(1, 1)], 2⟩ := by rfl
theorem zt_3 : zText 3 = ⟨#[51]⟩ := by
 unfold zText
 rw [if_neg (by decide)]
 show (⟨(Lib.decDigits 3).toArray⟩ : ByteArray) = _
 rw [Lib.decDigits_one (by decide)]
 rfl
theorem tt_0 : (⟨(118 :: Lib.decDigits 0 ++ if (0 : Int) = 0 then [] else 43 :: Lib.decDigits (0 : Int).toNat).toArray⟩ : ByteArray) = ⟨#[118, 48]⟩ := by
 rw [if_pos rfl, Lib.decDigits_one (by decide)]
 rfl
theorem tt_1 : (⟨(118 :: Lib.decDigits 1 ++ if (2 : Int) = 0 then [] else 43 :: Lib.decDigits (2 : Int).toNat).toArray⟩ : ByteArray) = ⟨#[118, 49, 43, 50]⟩ := by
 rw [if_neg (by decide), show (2 : Int).toNat = 2 from rfl, Lib.decDigits_one (by decide), Lib.decDigits_one (by decide)]
 rfl
theorem aq6 {w w' : World} {p : Nat} {kd : Int} {s : Bool} {a : Option Addr} {l c : Nat} {ad : Option Addr} {n cp : Nat} {t : Bool} {a5 : Option Addr} {m d : Nat} (x : AB w p kd s a l c ad n cp t a5 m d) (k : Below w.heap.size w w') :
  w'.cell? ⟨p, 1, none⟩ = some (.bool s) ∧ w'.cell? ⟨p, 2, none⟩ = some (.slice a l c) ∧ w'.cell? ⟨p, 3, none⟩ = some (.slice ad n cp) ∧ w'.cell? ⟨p, 4, none⟩ = some (.bool t) ∧ w'.cell? ⟨p, 5, none⟩ = some (.slice a5 m d) ∧ Below w.heap.size w w' :=
 ⟨(x.below k).c1, (x.below k).c2, (x.below k).c3, (x.below k).c4, (x.below k).c5, k⟩
theorem std_1 (v : Int) (c : Int) (h : c ≠ 0) : Std [(v, c)] := by
 refine ⟨?_, ?_⟩ <;> simp [h]

set_option maxRecDepth 100000 in
set_option maxHeartbeats 6400000 in
/-- the text of a divisibility of one part -/
theorem text_div {w : World} {sd : Bool} {ad : Option Addr} {ld cd : Nat} {ap : Option Addr} {cp : Nat} {sk : Bool} {ak : Option Addr} {lk ck : Nat} {B : Nat} (hd : Zn w sd ad ld cd 3) (hld : ld ≤ B) (hP : Pn w ap 1 [(0, 1)] B) (hk : Zn w sk ak lk ck 0) (hlk : lk ≤ B) (hB : B ≤ 1000) (htab : Tab w) :
  Calls Tryz.prog 26 #[.agg #[.int .i64 3, .bool sd, .slice ad ld cd, .slice ap 1 cp, .bool sk, .slice ak lk ck]] w fun x w' => x = .returned (.string ⟨#[51, 124, 118, 48]⟩) ∧ Below w.heap.size w w' := by
 go_enter Tryz.func26, Tryz.ntmps26
 go_wp2_with fail
 have x := AB.new w 3 sd ad ld cd ap 1 cp sk ak lk ck
 have b0 := below_alloc w (.cells #[.int .i64 3, .bool sd, .slice ad ld cd, .slice ap 1 cp, .bool sk, .slice ak lk ck] 29)
 replace hd := hd.below b0
 replace hP := hP.below b0
 replace hk := hk.below b0
 have htab0 := htab
 clear htab
 generalize w.alloc (.cells #[.int .i64 3, .bool sd, .slice ad ld cd, .slice ap 1 cp, .bool sk, .slice ak lk ck] 29) = wb at *
 generalize hp : w.heap.size = p at *
 replace b0 : Hid (Below w.heap.size w wb) := hp ▸ b0
 replace hp := hide hp
 refine (anorm_n (kd := 3) (B := B) hd.zm hld hP.pr hk.zm hlk (by omega) (by omega)).mono ?_
 rintro e w1 ⟨qs, hS, hc, hA, k1⟩
 obtain rfl : qs = [(0, 1)] := std_unique hS (std_1 0 1 (by decide)) hc
 have hfm : formA 3 3 [(0, 1)] 0 = .inl ⟨3, 3, [(0, 1)], 0⟩ := by unfold formA; rw [if_neg (by decide), if_neg (by decide), if_pos (by decide), if_neg (by decide), form_div2]
 rw [hfm] at hA
 obtain ⟨sd1, ad1, ld1, cd1, ap1, np1, cp1, sk1, ak1, lk1, ck1, rfl, hz1, hlz1, hPn1, hnp1, hk1, hlk1, hnew1⟩ := hA
 dsimp only at hz1 hPn1 hk1
 obtain rfl : np1 = 1 := hPn1.1.symm
 have hplb := x.lt
 have kp0 : w.heap.size ≤ p := by have := hp.out; omega
 replace x := x.below k1
 have hpl := x.lt
 have kk := hide (grow_step k1 b0.out)
 have g6 := ab_set w1 p (.int .i64 3) (.bool sd1) (.slice ad1 ld1 cd1) (.slice ap1 1 cp1) (.bool sk1) (.slice ak1 lk1 ck1)
 have hU := ab_noU x
 have hz2 := hz1.grownU g6 hU
 have hk2 := hk1.grownU g6 hU
 have hP2 := hPn1.away (fun b off e => by have h1 := hnew1 b off e; have h2 := hplb; omega) g6 hU
 have x2 : AB _ p 3 sd1 ad1 ld1 cd1 ap1 1 cp1 sk1 ak1 lk1 ck1 := ab_fin x 3 sd1 ad1 ld1 cd1 ap1 1 cp1 sk1 ak1 lk1 ck1
 have kw2 := hide (below_grown kk.out g6 (by have := hp.out; omega))
 have ht2 : Tab _ := htab0.below kw2.out
 have HH := hide (And.intro hz2 (And.intro hk2 (And.intro hP2 (And.intro x2 ht2))))
 have e0 := x.c0
 have e1 := x.c1
 have e2 := x.c2
 have e3 := x.c3
 have e4 := x.c4
 have e5 := x.c5
 have f0 := x.f 0
 have f1 := x.f 1
 have f2 := x.f 2
 have f3 := x.f 3
 have f4 := x.f 4
 have f5 := x.f 5
 clear hz1 hk1 hPn1 hnew1 hz2 hk2 hP2 x2 ht2 hU g6 hfm hS hc k1
 go_wp2_with fail
 obtain ⟨hz2, hk2, hP2, x2, ht2⟩ := HH.out
 clear HH e0 e1 e2 e3 e4 e5 f0 f1 f2 f3 f4 f5
 generalize (((((w1.setCell ⟨p, 0, none⟩ (.int .i64 3)).setCell ⟨p, 1, none⟩ (.bool sd1)).setCell ⟨p, 2, none⟩ (.slice ad1 ld1 cd1)).setCell ⟨p, 3, none⟩ (.slice ap1 1 cp1)).setCell ⟨p, 4, none⟩ (.bool sk1)).setCell ⟨p, 5, none⟩ (.slice ak1 lk1 ck1) = w2 at *
 replace hP2 : Pn w2 ap1 1 [(((0 : Nat) : Int), 1)] (B + 1 + 16) := hP2
 go_region_held3 (fun w' => w'.cell? ⟨p, 1, none⟩ = some (.bool sd1) ∧ w'.cell? ⟨p, 2, none⟩ = some (.slice ad1 ld1 cd1) ∧ w'.cell? ⟨p, 3, none⟩ = some (.slice ap1 1 cp1) ∧ w'.cell? ⟨p, 4, none⟩ = some (.bool sk1) ∧ w'.cell? ⟨p, 5, none⟩ = some (.slice ak1 lk1 ck1) ∧ Below w2.heap.size w2 w')
  ((refine aq6 x2 ?_; (repeat' (first | with_reducible exact Below.refl _ _ | with_reducible assumption | with_reducible refine grow_step (by with_reducible assumption) ?_ | with_reducible refine grow_drew ?_ | with_reducible refine grow_alloc ?_ _ | with_reducible refine grow_drewN ?_ _))))
  (first | (go_at_call 72; with_reducible refine (ztext_n (Zn.zm (Zn.below hz2 (by (repeat' (first | with_reducible exact Below.refl _ _ | with_reducible assumption | with_reducible refine grow_step (by with_reducible assumption) ?_ | with_reducible refine grow_drew ?_ | with_reducible refine grow_alloc ?_ _ | with_reducible refine grow_drewN ?_ _))))) (by omega) (Tab.below ht2 (by (repeat' (first | with_reducible exact Below.refl _ _ | with_reducible assumption | with_reducible refine grow_step (by with_reducible assumption) ?_ | with_reducible refine grow_drew ?_ | with_reducible refine grow_alloc ?_ _ | with_reducible refine grow_drewN ?_ _))))).mono ?_; rintro e w4 ⟨rfl, hg4⟩; rw [zt_3]) | (go_at_call 71; with_reducible refine (termText_one (Pn.below hP2 (by (repeat' (first | with_reducible exact Below.refl _ _ | with_reducible assumption | with_reducible refine grow_step (by with_reducible assumption) ?_ | with_reducible refine grow_drew ?_ | with_reducible refine grow_alloc ?_ _ | with_reducible refine grow_drewN ?_ _)))) (Zn.below hk2 (by (repeat' (first | with_reducible exact Below.refl _ _ | with_reducible assumption | with_reducible refine grow_step (by with_reducible assumption) ?_ | with_reducible refine grow_drew ?_ | with_reducible refine grow_alloc ?_ _ | with_reducible refine grow_drewN ?_ _)))) hlk1 (by omega) (by decide) (by decide) (Tab.below ht2 (by (repeat' (first | with_reducible exact Below.refl _ _ | with_reducible assumption | with_reducible refine grow_step (by with_reducible assumption) ?_ | with_reducible refine grow_drew ?_ | with_reducible refine grow_alloc ?_ _ | with_reducible refine grow_drewN ?_ _))))).mono ?_; rintro e w5 ⟨rfl, hg5⟩; rw [tt_0]))
 rename_i hH
 have kf := hide (kw2.out.trans (hH.2.2.2.2.2.mono kw2.out.size))
 clear hH hg4 hg5
 go_wp2
 go_ret
 exact ⟨rfl, kf.out⟩

set_option maxRecDepth 100000 in
set_option maxHeartbeats 6400000 in
/-- the text of a comparison of one part -/
theorem text_less {w : World} {sd : Bool} {ad : Option Addr} {ld cd : Nat} {ap : Option Addr} {cp : Nat} {sk : Bool} {ak : Option Addr} {lk ck : Nat} {B : Nat} (hd : Zn w sd ad ld cd 0) (hld : ld ≤ B) (hP : Pn w ap 1 [(1, 1)] B) (hk : Zn w sk ak lk ck 2) (hlk : lk ≤ B) (hB : B ≤ 1000) (htab : Tab w) :
  Calls Tryz.prog 26 #[.agg #[.int .i64 2, .bool sd, .slice ad ld cd, .slice ap 1 cp, .bool sk, .slice ak lk ck]] w fun x w' => x = .returned (.string ⟨#[48, 60, 118, 49, 43, 50]⟩) ∧ Below w.heap.size w w' := by
 go_enter Tryz.func26, Tryz.ntmps26
 go_wp2_with fail
 have x := AB.new w 2 sd ad ld cd ap 1 cp sk ak lk ck
 have b0 := below_alloc w (.cells #[.int .i64 2, .bool sd, .slice ad ld cd, .slice ap 1 cp, .bool sk, .slice ak lk ck] 29)
 replace hd := hd.below b0
 replace hP := hP.below b0
 replace hk := hk.below b0
 have htab0 := htab
 clear htab
 generalize w.alloc (.cells #[.int .i64 2, .bool sd, .slice ad ld cd, .slice ap 1 cp, .bool sk, .slice ak lk ck] 29) = wb at *
 generalize hp : w.heap.size = p at *
 replace b0 : Hid (Below w.heap.size w wb) := hp ▸ b0
 replace hp := hide hp
 refine (anorm_n (kd := 2) (B := B) hd.zm hld hP.pr hk.zm hlk (by omega) (by omega)).mono ?_
 rintro e w1 ⟨qs, hS, hc, hA, k1⟩
 obtain rfl : qs = [(1, 1)] := std_unique hS (std_1 1 1 (by decide)) hc
 have hfm : formA 2 0 [(1, 1)] 2 = .inl ⟨2, 0, [(1, 1)], 2⟩ := by unfold formA; rw [if_neg (by decide), if_pos rfl, form_less2]
 rw [hfm] at hA
 obtain ⟨sd1, ad1, ld1, cd1, ap1, np1, cp1, sk1, ak1, lk1, ck1, rfl, hz1, hlz1, hPn1, hnp1, hk1, hlk1, hnew1⟩ := hA
 dsimp only at hz1 hPn1 hk1
 obtain rfl : np1 = 1 := hPn1.1.symm
 have hplb := x.lt
 have kp0 : w.heap.size ≤ p := by have := hp.out; omega
 replace x := x.below k1
 have hpl := x.lt
 have kk := hide (grow_step k1 b0.out)
 have g6 := ab_set w1 p (.int .i64 2) (.bool sd1) (.slice ad1 ld1 cd1) (.slice ap1 1 cp1) (.bool sk1) (.slice ak1 lk1 ck1)
 have hU := ab_noU x
 have hz2 := hz1.grownU g6 hU
 have hk2 := hk1.grownU g6 hU
 have hP2 := hPn1.away (fun b off e => by have h1 := hnew1 b off e; have h2 := hplb; omega) g6 hU
 have x2 : AB _ p 2 sd1 ad1 ld1 cd1 ap1 1 cp1 sk1 ak1 lk1 ck1 := ab_fin x 2 sd1 ad1 ld1 cd1 ap1 1 cp1 sk1 ak1 lk1 ck1
 have kw2 := hide (below_grown kk.out g6 (by have := hp.out; omega))
 have ht2 : Tab _ := htab0.below kw2.out
 have HH := hide (And.intro hz2 (And.intro hk2 (And.intro hP2 (And.intro x2 ht2))))
 have e0 := x.c0
 have e1 := x.c1
 have e2 := x.c2
 have e3 := x.c3
 have e4 := x.c4
 have e5 := x.c5
 have f0 := x.f 0
 have f1 := x.f 1
 have f2 := x.f 2
 have f3 := x.f 3
 have f4 := x.f 4
 have f5 := x.f 5
 clear hz1 hk1 hPn1 hnew1 hz2 hk2 hP2 x2 ht2 hU g6 hfm hS hc k1
 go_wp2_with fail
 obtain ⟨hz2, hk2, hP2, x2, ht2⟩ := HH.out
 clear HH e0 e1 e2 e3 e4 e5 f0 f1 f2 f3 f4 f5
 generalize (((((w1.setCell ⟨p, 0, none⟩ (.int .i64 2)).setCell ⟨p, 1, none⟩ (.bool sd1)).setCell ⟨p, 2, none⟩ (.slice ad1 ld1 cd1)).setCell ⟨p, 3, none⟩ (.slice ap1 1 cp1)).setCell ⟨p, 4, none⟩ (.bool sk1)).setCell ⟨p, 5, none⟩ (.slice ak1 lk1 ck1) = w2 at *
 replace hP2 : Pn w2 ap1 1 [(((1 : Nat) : Int), 1)] (B + 1 + 16) := hP2
 refine (termText_one hP2 hk2 hlk1 (by omega) (by decide) (by decide) ht2).mono ?_
 rintro e w5 ⟨rfl, k5⟩
 rw [tt_1]
 have kf := hide (kw2.out.trans (k5.mono kw2.out.size))
 clear k5
 go_wp2
 go_ret
 exact ⟨rfl, kf.out⟩
set_option maxRecDepth 100000 in
set_option maxHeartbeats 6400000 in
theorem awake6_n (w : World) (htab : Tab w) :
  Calls Tryz.prog 6 #[] w fun x w' => x = .returned (.bool true) ∧ Below w.heap.size w w' := by
 go_enter Tryz.func6, Tryz.ntmps6
 go_wp2_with fail
 refine (zof_n (-6) (by decide) (by decide) w).mono ?_
 rintro e w1 ⟨s1, a1, l1, c1, rfl, hz1, k1, hl1⟩
 replace k1 := hide k1
 go_wp2_with fail
 refine (zof_n 4 (by decide) (by decide) w1).mono ?_
 rintro e w2 ⟨s2, a2, l2, c2, rfl, hz2, k2, hl2⟩
 replace hz1 := hz1.below k2
 replace k2 := hide (grow_step k2 k1.out)
 clear k1
 go_wp2_with fail
 refine (tvar_n (B := 2) (by unfold I64; decide) (by decide)).mono ?_
 rintro e w3 ⟨ad3, cp3, rs3, rfl, hT3, hrs3⟩
 replace hz1 := hz1.below hT3.below
 replace hz2 := hz2.below hT3.below
 have hP3 := hT3.pn
 rw [hrs3] at hP3
 have hZ3 := hT3.zn
 have k3 := hide (grow_step hT3.below k2.out)
 clear k2 hT3
 go_wp2_with fail
 refine (tscale_n hz2.zm (by omega) hP3.pr hZ3.zm (by decide) (by decide)).mono ?_
 rintro e w4 ⟨ad4, n4, cp4, s4, a4, l4, c4, qs4, rfl, hT4, hn4, hS4, hc4, k4⟩
 obtain rfl : qs4 = [(0, 4)] := std_unique hS4 (std_1 0 4 (by decide)) (fun v => hc4 v)
 replace hz1 := hz1.below k4
 replace k4 := hide (grow_step k4 k3.out)
 obtain ⟨hP4, hZ4, hl4⟩ := hT4
 have hl4' : l4 ≤ 6 := by omega
 replace hP4 := hP4.mono (B' := 6) (by omega)
 clear k3 hl4 hS4 hc4 hz2 hP3 hZ3
 go_wp2_with fail
 refine (adiv_n (B := 6) hz1.zm (by omega) hP4 hZ4 hl4' (by omega) (by omega) (by decide)).mono ?_
 rintro e w5 ⟨qs5, hS5, hc5, hA5, k5⟩
 obtain rfl : qs5 = [(0, 4)] := std_unique hS5 (std_1 0 4 (by decide)) hc5
 rw [show divF 3 (-6) [(0, 4)] (4 * 0) = _ from form_div] at hA5
 obtain ⟨sd5, ad5, ld5, cd5, ap5, np5, cp5, sk5, ak5, lk5, ck5, rfl, hd5, hld5, hP5, hnp5, hk5, hlk5, -⟩ := hA5
 dsimp only at hd5 hP5 hk5
 obtain rfl : np5 = 1 := hP5.1.symm
 have hA5 := AB.new w5 3 sd5 ad5 ld5 cd5 ap5 1 cp5 sk5 ak5 lk5 ck5
 have ka := below_alloc w5 (.cells #[.int .i64 3, .bool sd5, .slice ad5 ld5 cd5, .slice ap5 1 cp5, .bool sk5, .slice ak5 lk5 ck5] 29)
 replace hd5 := hd5.below ka
 replace hP5 := hP5.below ka
 replace hk5 := hk5.below ka
 replace k5 := hide (grow_step ka (grow_step k5 k4.out))
 clear k4 ka hS5 hc5 hP4 hZ4 hz1
 go_wp2_with fail
 generalize w5.alloc (.cells #[.int .i64 3, .bool sd5, .slice ad5 ld5 cd5, .slice ap5 1 cp5, .bool sk5, .slice ak5 lk5 ck5] 29) = wA at *
 generalize w5.heap.size = bA at *
 refine (zof_n 2 (by decide) (by decide) wA).mono ?_
 rintro e w2 ⟨s2, a2, l2, c2, rfl, hz2, k2, hl2⟩
 have KA := hide k2
 have KW := k5
 clear k5 k2
 go_wp2_with fail
 refine (tvar_n (B := 2) (by unfold I64; decide) (by decide)).mono ?_
 rintro e w3 ⟨ad3, cp3, rs3, rfl, hT3, hrs3⟩
 replace hz2 := hz2.below hT3.below
 have hP3 := hT3.pn
 rw [hrs3] at hP3
 have hZ3 := hT3.zn
 replace KA := hide (grow_step hT3.below KA.out)
 clear hT3
 go_wp2_with fail
 refine (tscale_n hz2.zm (by omega) hP3.pr hZ3.zm (by decide) (by decide)).mono ?_
 rintro e w4 ⟨ad4, n4, cp4, s4, a4, l4, c4, qs4, rfl, hT4, hn4, hS4, hc4, k4⟩
 obtain rfl : qs4 = [(1, 2)] := std_unique hS4 (std_1 1 2 (by decide)) (fun v => hc4 v)
 replace KA := hide (grow_step k4 KA.out)
 clear k4 hS4 hc4 hz2 hP3 hZ3
 replace hT4 := hT4.mono (B' := 6) (by omega)
 go_wp2_with fail
 refine (zof_n 3 (by decide) (by decide) w4).mono ?_
 rintro e w6 ⟨s6, a6, l6, c6, rfl, hz6, k6, hl6⟩
 replace hT4 := hT4.below k6
 replace KA := hide (grow_step k6 KA.out)
 clear k6
 go_wp2_with fail
 refine (tconst_n (B := 6) hz6.zm (by omega) (by decide)).mono ?_
 rintro e w7 ⟨s7, a7, l7, c7, rfl, hT7⟩
 replace hT4 := hT4.below hT7.below
 replace KA := hide (grow_step hT7.below KA.out)
 have hT7' := hT7.tw
 clear hT7 hz6
 go_wp2_with fail
 refine (tadd_n (B := 6) hT4.1 hT4.2.1 hT4.2.2 hT7'.1 hT7'.2.1 hT7'.2.2 (by omega)).mono ?_
 rintro e w8 ⟨ad8, n8, cp8, s8, a8, l8, c8, rs8, rfl, hT8, hn8, hS8, hc8⟩
 replace KA := hide (grow_step hT8.below KA.out)
 have hT8' := hT8.tw
 clear hT8 hT4 hT7'
 generalize rs8.map Raw.p = qs8 at *
 obtain rfl : qs8 = [(1, 2)] := std_unique hS8 (std_1 1 2 (by decide)) (fun v => hc8 v)
 obtain ⟨hP8, hZ8, hl8⟩ := hT8'
 replace hP8 := hP8.mono (B' := 12) (by omega)
 go_wp2_with fail
 refine (less_n (B := 12) hP8 hZ8 (by omega) (by omega) (by omega)).mono ?_
 rintro e w9 ⟨qs9, hS9, hc9, hA9, k9⟩
 obtain rfl : qs9 = [(1, 2)] := std_unique hS9 (std_1 1 2 (by decide)) hc9
 rw [show lessF [(1, 2)] (2 * 0 + 3) = _ from form_less] at hA9
 obtain ⟨sd6, ad6, ld6, cd6, ap6, np6, cp6, sk6, ak6, lk6, ck6, rfl, hd6, hld6, hP6, hnp6, hk6, hlk6, -⟩ := hA9
 dsimp only at hd6 hP6 hk6
 obtain rfl : np6 = 1 := hP6.1.symm
 have hA6 := AB.new w9 2 sd6 ad6 ld6 cd6 ap6 1 cp6 sk6 ak6 lk6 ck6
 have kb := below_alloc w9 (.cells #[.int .i64 2, .bool sd6, .slice ad6 ld6 cd6, .slice ap6 1 cp6, .bool sk6, .slice ak6 lk6 ck6] 29)
 replace hd6 := hd6.below kb
 replace hP6 := hP6.below kb
 replace hk6 := hk6.below kb
 replace KA := hide (grow_step kb (grow_step k9 KA.out))
 clear k9 kb hS9 hc9 hS8 hc8 hP8 hZ8
 replace hA5 := hA5.below KA.out
 have u0 := hA5.c0
 have u1 := hA5.c1
 have u2 := hA5.c2
 have u3 := hA5.c3
 have u4 := hA5.c4
 have u5 := hA5.c5
 go_wp2_with fail
 generalize w9.alloc (.cells #[.int .i64 2, .bool sd6, .slice ad6 ld6 cd6, .slice ap6 1 cp6, .bool sk6, .slice ak6 lk6 ck6] 29) = wB at *
 generalize w9.heap.size = bB at *
 have htB : Tab wB := htab.below (grow_step KA.out KW.out)
 refine (text_div (B := 23) (hd5.below KA.out) (by omega) ((hP5.below KA.out).mono (by omega)) (hk5.below KA.out) (by omega) (by decide) htB).mono ?_
 rintro e wC ⟨rfl, kC⟩
 replace hA6 := hA6.below kC
 replace hd6 := hd6.below kC
 replace hP6 := hP6.below kC
 replace hk6 := hk6.below kC
 replace KA := hide (grow_step kC KA.out)
 have htC := htB.below kC
 clear kC u0 u1 u2 u3 u4 u5 hA5 hd5 hP5 hk5 htB
 have u0 := hA6.c0
 have u1 := hA6.c1
 have u2 := hA6.c2
 have u3 := hA6.c3
 have u4 := hA6.c4
 have u5 := hA6.c5
 go_wp2_with fail
 refine (text_less (B := 12 + n8 + 16) hd6 hld6 hP6 hk6 hlk6 (by omega) htC).mono ?_
 rintro e wD ⟨rfl, kD⟩
 have kf := hide (grow_step (grow_step kD KA.out) KW.out)
 clear kD
 go_wp2
 go_ret
 exact ⟨rfl, kf.out⟩

end Go.Proofs.YtjhhknfnaobmiaaGreatDoor

namespace Go.Proofs.YtjhhknfnaobmiaaGreatDoor
open Go.RowKit Go.Sort Go.Shelf
open Tm At

/-- the order of two atoms, field by field -/
def ordA (k1 k2 d1 d2 : Int) (ps qs : List (Int × Int)) (c1 c2 : Int) : Int := if cmpI k1 k2 ≠ 0 then cmpI k1 k2 else if cmpI d1 d2 ≠ 0 then cmpI d1 d2 else ordT ps qs c1 c2

theorem ordA_self (k d : Int) (ps : List (Int × Int)) (c : Int) : ordA k k d d ps ps c c = 0 := by simp [ordA, cmpI_self, ordT_self]

set_option maxRecDepth 100000 in
set_option maxHeartbeats 6400000 in
theorem aorder_n {w : World} {kd : Int} {sd : Bool} {ad : Option Addr} {ld cd : Nat} {ap : Option Addr} {np cp : Nat} {sk : Bool} {ak : Option Addr} {lk ck : Nat} {d k : Int} {ps : List (Int × Int)} {kd2 : Int} {sd2 : Bool} {ad2 : Option Addr} {ld2 cd2 : Nat} {ap2 : Option Addr} {np2 cp2 : Nat} {sk2 : Bool} {ak2 : Option Addr} {lk2 ck2 : Nat} {d2 k2 : Int} {qs : List (Int × Int)} {B : Nat}
  (hd : Zm w sd ad ld cd d) (hld : ld ≤ B) (hP : Pr w ap np ps B) (hk : Zm w sk ak lk ck k) (hlk : lk ≤ B) (hd2 : Zm w sd2 ad2 ld2 cd2 d2) (hld2 : ld2 ≤ B) (hP2 : Pr w ap2 np2 qs B) (hk2 : Zm w sk2 ak2 lk2 ck2 k2) (hlk2 : lk2 ≤ B) (hB : B + np ≤ 268435456) (hB2 : B + np2 ≤ 268435456) :
  Calls Tryz.prog 23 #[.agg #[.int .i64 kd, .bool sd, .slice ad ld cd, .slice ap np cp, .bool sk, .slice ak lk ck], .agg #[.int .i64 kd2, .bool sd2, .slice ad2 ld2 cd2, .slice ap2 np2 cp2, .bool sk2, .slice ak2 lk2 ck2]] w fun e w' => ∃ ps' qs', e = .returned (.int .i64 (ordA kd kd2 d d2 ps' qs' k k2)) ∧ Std ps' ∧ Std qs' ∧ (∀ v, csum ps' v = csum ps v) ∧ (∀ v, csum qs' v = csum qs v) ∧ Below w.heap.size w w' := by
 go_enter Tryz.func23, Tryz.ntmps23
 go_wp2_with fail
 have x := (AB.new w kd sd ad ld cd ap np cp sk ak lk ck).below (below_alloc _ (.cells #[.int .i64 kd2, .bool sd2, .slice ad2 ld2 cd2, .slice ap2 np2 cp2, .bool sk2, .slice ak2 lk2 ck2] 29))
 have y := AB.new (w.alloc (.cells #[.int .i64 kd, .bool sd, .slice ad ld cd, .slice ap np cp, .bool sk, .slice ak lk ck] 29)) kd2 sd2 ad2 ld2 cd2 ap2 np2 cp2 sk2 ak2 lk2 ck2
 have b0 : Below w.heap.size w ((w.alloc (.cells #[.int .i64 kd, .bool sd, .slice ad ld cd, .slice ap np cp, .bool sk, .slice ak lk ck] 29)).alloc (.cells #[.int .i64 kd2, .bool sd2, .slice ad2 ld2 cd2, .slice ap2 np2 cp2, .bool sk2, .slice ak2 lk2 ck2] 29)) := below_alloc' (below_alloc _ _) _
 rw [show (w.alloc (.cells #[.int .i64 kd, .bool sd, .slice ad ld cd, .slice ap np cp, .bool sk, .slice ak lk ck] 29)).heap.size = w.heap.size + 1 from by simp] at y
 generalize (w.alloc (.cells #[.int .i64 kd, .bool sd, .slice ad ld cd, .slice ap np cp, .bool sk, .slice ak lk ck] 29)).alloc (.cells #[.int .i64 kd2, .bool sd2, .slice ad2 ld2 cd2, .slice ap2 np2 cp2, .bool sk2, .slice ak2 lk2 ck2] 29) = wb at *
 replace hd := hd.below b0
 replace hP := hP.below b0
 replace hk := hk.below b0
 replace hd2 := hd2.below b0
 replace hP2 := hP2.below b0
 replace hk2 := hk2.below b0
 generalize hp : w.heap.size = p at *
 replace b0 : Hid (Below w.heap.size w wb) := hp ▸ b0
 clear hp
 generalize p + 1 = q at *
 refine (compare_n).mono ?_
 rintro e w1 ⟨rfl, k1⟩
 replace x := x.below k1
 replace y := y.below k1
 replace hd := hd.below k1
 replace hP := hP.below k1
 replace hk := hk.below k1
 replace hd2 := hd2.below k1
 replace hP2 := hP2.below k1
 replace hk2 := hk2.below k1
 have kk := hide (grow_step k1 b0.out)
 clear k1 b0
 by_cases hc1 : cmpI kd kd2 = 0
 ·rw [hc1]
  have e1 := x.c1
  have e2 := x.c2
  have f1 := y.c1
  have f2 := y.c2
  go_wp2_with fail
  refine (zcmp_n hd hd2 (by omega) (by omega)).mono ?_
  rintro e w2 ⟨rfl, k2⟩
  replace x := x.below k2
  replace y := y.below k2
  replace hP := hP.below k2
  replace hk := hk.below k2
  replace hP2 := hP2.below k2
  replace hk2 := hk2.below k2
  replace kk := hide (grow_step k2 kk.out)
  clear k2 e1 e2 f1 f2 hd hd2
  by_cases hc2 : cmpI d d2 = 0
  ·rw [hc2]
   have e3 := x.c3
   have e4 := x.c4
   have e5 := x.c5
   have f3 := y.c3
   have f4 := y.c4
   have f5 := y.c5
   go_wp2_with fail
   refine (torder_n hP hk hlk hP2 hk2 hlk2 hB hB2).mono ?_
   rintro e w3 ⟨ps', qs', rfl, h1, h2, h3, h4, k3⟩
   have hfin : Hid (ordT ps' qs' k k2 = ordA kd kd2 d d2 ps' qs' k k2) := (show _ = _ by unfold ordA; rw [if_neg (by simp [hc1]), if_neg (by simp [hc2])])
   replace kk := hide (grow_step k3 kk.out)
   generalize ordT ps' qs' k k2 = o at *
   replace h1 := hide h1
   replace h2 := hide h2
   replace h3 := hide h3
   replace h4 := hide h4
   clear k3 e3 e4 e5 f3 f4 f5
   go_wp2
   go_ret
   exact ⟨ps', qs', by rw [← hfin.out]; first | rfl | simp, h1.out, h2.out, h3.out, h4.out, kk.out⟩
  ·have hfin : Hid (cmpI d d2 = ordA kd kd2 d d2 (nz (lays [] ps)) (nz (lays [] qs)) k k2) := (show _ = _ by unfold ordA; rw [if_neg (by simp [hc1]), if_pos hc2])
   generalize cmpI d d2 = o at *
   have i0 : (o == 0) = false := by rw [beq_eq_false_iff_ne]; exact hc2
   go_wp2
   go_ret
   exact ⟨_, _, by rw [← hfin.out]; first | rfl | simp, std_lays ps, std_lays qs, fun v => csum_nzl ps v, fun v => csum_nzl qs v, kk.out⟩
 ·have hfin : Hid (cmpI kd kd2 = ordA kd kd2 d d2 (nz (lays [] ps)) (nz (lays [] qs)) k k2) := (show _ = _ by unfold ordA; rw [if_pos hc1])
  generalize cmpI kd kd2 = o at *
  have i0 : (o == 0) = false := by rw [beq_eq_false_iff_ne]; exact hc1
  go_wp2
  go_ret
  exact ⟨_, _, by rw [← hfin.out]; first | rfl | simp, std_lays ps, std_lays qs, fun v => csum_nzl ps v, fun v => csum_nzl qs v, kk.out⟩

set_option maxRecDepth 100000 in
set_option maxHeartbeats 6400000 in
/-- a form stands as it should -/
theorem avalid_t {w : World} {f : Atm} {sd : Bool} {ad : Option Addr} {ld cd : Nat} {ap : Option Addr} {np cp : Nat} {sk : Bool} {ak : Option Addr} {lk ck : Nat} {B : Nat}
  (hf : Fit f) (hd : Zn w sd ad ld cd f.d) (hld : ld ≤ B) (hP : Pn w ap np f.ps B) (hk : Zn w sk ak lk ck f.k) (hlk : lk ≤ B) (hn : np ≤ 262144) (hB : B + np + 1 ≤ 4194000) :
  Calls Tryz.prog 14 #[.agg #[.int .i64 f.kind, .bool sd, .slice ad ld cd, .slice ap np cp, .bool sk, .slice ak lk ck]] w fun e w' => e = .returned (.bool true) ∧ Below w.heap.size w w' := by
 obtain ⟨fk, fd, fps, fkk⟩ := f
 dsimp only at hd hP hk ⊢
 replace hf := hide hf
 go_enter Tryz.func14, Tryz.ntmps14
 go_wp2_with fail
 have x := AB.new w fk sd ad ld cd ap np cp sk ak lk ck
 have b0 := below_alloc w (.cells #[.int .i64 fk, .bool sd, .slice ad ld cd, .slice ap np cp, .bool sk, .slice ak lk ck] 29)
 replace hd := hd.below b0
 replace hP := hP.below b0
 replace hk := hk.below b0
 generalize w.alloc (.cells #[.int .i64 fk, .bool sd, .slice ad ld cd, .slice ap np cp, .bool sk, .slice ak lk ck] 29) = wb at *
 generalize hp : w.heap.size = p at *
 replace b0 : Hid (Below w.heap.size w wb) := hp ▸ b0
 clear hp
 refine (anorm_n hd.zm hld hP.pr hk.zm hlk hn hB).mono ?_
 rintro e w1 ⟨qs, hS, hc, hA, k1⟩
 obtain rfl : qs = fps := std_unique hS hf.out.std hc
 have hag : formA fk fd qs fkk = .inl ⟨fk, fd, qs, fkk⟩ := hf.out.again
 rw [hag] at hA
 obtain ⟨sd1, ad1, ld1, cd1, ap1, np1, cp1, sk1, ak1, lk1, ck1, rfl, hz1, hlz1, hPn1, hnp1, hk1, hlk1, -⟩ := hA
 dsimp only at hz1 hPn1 hk1
 obtain rfl : np1 = np := hPn1.1.symm.trans hP.1
 clear hag hc
 have y := AB.new w1 fk sd1 ad1 ld1 cd1 ap1 np1 cp1 sk1 ak1 lk1 ck1
 have ka := below_alloc w1 (.cells #[.int .i64 fk, .bool sd1, .slice ad1 ld1 cd1, .slice ap1 np1 cp1, .bool sk1, .slice ak1 lk1 ck1] 29)
 have x1 := x.below k1
 have e1 := x1.c1
 have e2 := x1.c2
 have e3 := x1.c3
 have e4 := x1.c4
 have e5 := x1.c5
 have hxl := x1.lt
 replace x := x1.below ka
 replace hd := (hd.below k1).below ka
 replace hP := (hP.below k1).below ka
 replace hk := (hk.below k1).below ka
 replace hz1 := hz1.below ka
 replace hPn1 := hPn1.below ka
 replace hk1 := hk1.below ka
 have kk := hide (grow_step ka (grow_step k1 b0.out))
 clear k1 b0
 have HH := hide (And.intro x (And.intro y (And.intro hd (And.intro hP (And.intro hk (And.intro hz1 (And.intro hPn1 hk1)))))))
 clear x y hd hP hk hz1 hPn1 hk1 ka x1
 go_wp2_with fail
 obtain ⟨x, y, hd, hP, hk, hz1, hPn1, hk1⟩ := HH.out
 clear HH e1 e2 e3 e4 e5
 generalize w1.alloc (.cells #[.int .i64 fk, .bool sd1, .slice ad1 ld1 cd1, .slice ap1 np1 cp1, .bool sk1, .slice ak1 lk1 ck1] 29) = wn at *
 generalize w1.heap.size = bn at *
 obtain ⟨xd, hrd, hsd, -⟩ := hd.stands
 refine (zvalid_n hrd).mono ?_
 rintro e w2 ⟨rfl, k2⟩
 rw [hsd]
 replace x := x.below k2
 replace y := y.below k2
 replace hd := hd.below k2
 replace hP := hP.below k2
 replace hk := hk.below k2
 replace hz1 := hz1.below k2
 replace hPn1 := hPn1.below k2
 replace hk1 := hk1.below k2
 replace kk := hide (grow_step k2 kk.out)
 clear k2 hrd hsd
 have e3 := x.c3
 have e4 := x.c4
 have e5 := x.c5
 go_wp2_with fail
 obtain ⟨X, hX, hVX⟩ := pn_px hP hS
 obtain ⟨xk, hrk, hsk, -⟩ := hk.stands
 refine (tvalid_n hX hrk (by omega) (by omega)).mono ?_
 rintro e w3 ⟨b3, rfl, hb3, k3⟩
 obtain rfl := hb3.2 ⟨hVX, hsk⟩
 replace x := x.below k3
 replace y := y.below k3
 replace hd := hd.below k3
 replace hP := hP.below k3
 replace hk := hk.below k3
 replace hz1 := hz1.below k3
 replace hPn1 := hPn1.below k3
 replace hk1 := hk1.below k3
 replace kk := hide (grow_step k3 kk.out)
 clear k3 hX hVX hrk hsk hb3 e3 e4 e5
 have e0 := x.c0
 have e1 := x.c1
 have e2 := x.c2
 have e3 := x.c3
 have e4 := x.c4
 have e5 := x.c5
 have f0 := y.c0
 have f1 := y.c1
 have f2 := y.c2
 have f3 := y.c3
 have f4 := y.c4
 have f5 := y.c5
 go_wp2_with fail
 refine (aorder_n (B := B + np1 + 16) hd.zm (by omega) (hP.pr.mono (by omega)) hk.zm (by omega) hz1.zm hlz1 hPn1.pr hk1.zm hlk1 (by omega) (by omega)).mono ?_
 rintro e w4 ⟨ps', qs', rfl, h1, h2, h3, h4, k4⟩
 obtain rfl : ps' = qs := std_unique h1 hS h3
 obtain rfl : qs' = ps' := std_unique h2 hS h4
 rw [ordA_self]
 have kf := hide (grow_step k4 kk.out)
 clear k4 kk h1 h2 h3 h4 e0 e1 e2 e3 e4 e5 f0 f1 f2 f3 f4 f5
 go_wp2
 go_ret
 exact ⟨rfl, kf.out⟩

set_option maxRecDepth 100000 in
set_option maxHeartbeats 6400000 in
/-- a form is the same as itself, wherever both lie -/
theorem same6_t {w : World} {f : Atm} {sd : Bool} {ad : Option Addr} {ld cd : Nat} {ap : Option Addr} {np cp : Nat} {sk : Bool} {ak : Option Addr} {lk ck : Nat} {sd2 : Bool} {ad2 : Option Addr} {ld2 cd2 : Nat} {ap2 : Option Addr} {np2 cp2 : Nat} {sk2 : Bool} {ak2 : Option Addr} {lk2 ck2 : Nat} {B : Nat}
  (hS : Std f.ps) (hd : Zn w sd ad ld cd f.d) (hld : ld ≤ B) (hP : Pn w ap np f.ps B) (hk : Zn w sk ak lk ck f.k) (hlk : lk ≤ B) (hd2 : Zn w sd2 ad2 ld2 cd2 f.d) (hld2 : ld2 ≤ B) (hP2 : Pn w ap2 np2 f.ps B) (hk2 : Zn w sk2 ak2 lk2 ck2 f.k) (hlk2 : lk2 ≤ B) (hB : B + np ≤ 268435456) (hB2 : B + np2 ≤ 268435456) :
  Calls Tryz.prog 15 #[.agg #[.int .i64 f.kind, .bool sd, .slice ad ld cd, .slice ap np cp, .bool sk, .slice ak lk ck], .agg #[.int .i64 f.kind, .bool sd2, .slice ad2 ld2 cd2, .slice ap2 np2 cp2, .bool sk2, .slice ak2 lk2 ck2]] w fun e w' => e = .returned (.bool true) ∧ Below w.heap.size w w' := by
 obtain ⟨fk, fd, fps, fkk⟩ := f
 dsimp only at hS hd hP hk hd2 hP2 hk2 ⊢
 go_enter Tryz.func15, Tryz.ntmps15
 go_wp2_with fail
 have x := (AB.new w fk sd ad ld cd ap np cp sk ak lk ck).below (below_alloc _ (.cells #[.int .i64 fk, .bool sd2, .slice ad2 ld2 cd2, .slice ap2 np2 cp2, .bool sk2, .slice ak2 lk2 ck2] 29))
 have y := AB.new (w.alloc (.cells #[.int .i64 fk, .bool sd, .slice ad ld cd, .slice ap np cp, .bool sk, .slice ak lk ck] 29)) fk sd2 ad2 ld2 cd2 ap2 np2 cp2 sk2 ak2 lk2 ck2
 have b0 : Below w.heap.size w ((w.alloc (.cells #[.int .i64 fk, .bool sd, .slice ad ld cd, .slice ap np cp, .bool sk, .slice ak lk ck] 29)).alloc (.cells #[.int .i64 fk, .bool sd2, .slice ad2 ld2 cd2, .slice ap2 np2 cp2, .bool sk2, .slice ak2 lk2 ck2] 29)) := below_alloc' (below_alloc _ _) _
 rw [show (w.alloc (.cells #[.int .i64 fk, .bool sd, .slice ad ld cd, .slice ap np cp, .bool sk, .slice ak lk ck] 29)).heap.size = w.heap.size + 1 from by simp] at y
 generalize (w.alloc (.cells #[.int .i64 fk, .bool sd, .slice ad ld cd, .slice ap np cp, .bool sk, .slice ak lk ck] 29)).alloc (.cells #[.int .i64 fk, .bool sd2, .slice ad2 ld2 cd2, .slice ap2 np2 cp2, .bool sk2, .slice ak2 lk2 ck2] 29) = wb at *
 replace hd := hd.below b0
 replace hP := hP.below b0
 replace hk := hk.below b0
 replace hd2 := hd2.below b0
 replace hP2 := hP2.below b0
 replace hk2 := hk2.below b0
 replace hS := hide hS
 generalize hp : w.heap.size = p at *
 replace b0 : Hid (Below w.heap.size w wb) := hp ▸ b0
 clear hp
 generalize p + 1 = q at *
 refine (ris_t hd hd2.zm (by omega) (by omega) rfl).mono ?_
 rintro e w1 ⟨rfl, k1⟩
 replace x := x.below k1
 replace y := y.below k1
 replace hd2 := hd2.below k1
 replace hP := hP.below k1
 replace hk := hk.below k1
 replace hP2 := hP2.below k1
 replace hk2 := hk2.below k1
 have kk := hide (grow_step k1 b0.out)
 clear k1 b0 hd
 have f1 := y.c1
 have f2 := y.c2
 go_wp2_with fail
 refine (rvalid_t hd2 (by omega)).mono ?_
 rintro e w2 ⟨rfl, k2⟩
 replace x := x.below k2
 replace y := y.below k2
 replace hP := hP.below k2
 replace hk := hk.below k2
 replace hP2 := hP2.below k2
 replace hk2 := hk2.below k2
 replace kk := hide (grow_step k2 kk.out)
 clear k2 hd2 f1 f2
 have e3 := x.c3
 have e4 := x.c4
 have e5 := x.c5
 have f3 := y.c3
 have f4 := y.c4
 have f5 := y.c5
 go_wp2_with fail
 refine (same5_t hS.out hP hk hlk hP2 hk2 hlk2 hB hB2).mono ?_
 rintro e w3 ⟨rfl, k3⟩
 replace x := x.below k3
 replace y := y.below k3
 replace kk := hide (grow_step k3 kk.out)
 clear k3 e3 e4 e5 f3 f4 f5
 have e0 := x.c0
 have f0 := y.c0
 go_wp2
 go_ret
 exact ⟨rfl, kk.out⟩
end Go.Proofs.YtjhhknfnaobmiaaGreatDoor
