/-
 Layer 6: the texts of two atoms that are known; what is known.
-/
import Derived.Test.YtjlkmjonadkkdaaGreatDoorP26
import Derived.Test.YtjlkmjonadkkdaaGreatDoorP16
namespace Go.Proofs.YtjlkmjonadkkdaaGreatDoor
open Go.RowKit Go.Sort Go.Shelf
open Tm At

/-- the form of 'v0 times 4 is divided by -6' -/
theorem form_div : divF 3 (-6) [(0, 4)] 0 = ⟨3, 3, [(0, 1)], 0⟩ := by rfl
theorem form_less : lessF [(1, 2)] 3 = ⟨2, 0, [(1, 1)], 2⟩ := by rfl
theorem form_div2 : divF 3 3 [(0, 1)] 0 = ⟨3, 3, [(0, 1)], 0⟩ := by rfl
theorem form_less2 : lessF [(1, 1)] 2 = ⟨2, 0, [(1, 1)], 2⟩ := by rfl
theorem zt_3 : zText 3 = ⟨#[51]⟩ := by
 unfold zText
 rw [if_neg (by decide)]
 show (⟨(Lib.decDigits 3).toArray⟩ : ByteArray) = _
 rw [Lib.decDigits_one (by decide)]
 rfl
theorem tt_0 : (⟨(118 :: Lib.decDigits 0 ++ if (0 : Int) = 0 then [] else 43 :: Lib.decDigits (0 : Int).toNat).toArray⟩ : ByteArray) = ⟨#[118, 48]⟩ := by
 rw [if_pos rfl, Lib.decDigits_one (by decide)]
 rfl
theorem tt_1 : (⟨(118 :: Lib.decDigits 1 ++ if (2 : Int) = 0 then [] else 43 :: Lib.decDigits (2 : Int).toNat).toArray⟩ : ByteArray) = ⟨#[118, 49, 43, 50]⟩ := by
 rw [if_neg (by decide), show (2 : Int).toNat = 2 from rfl, Lib.decDigits_one (by decide), Lib.decDigits_one (by decide)]
 rfl
theorem aq6 {w w' : World} {p : Nat} {kd : Int} {s : Bool} {a : Option Addr} {l c : Nat} {ad : Option Addr} {n cp : Nat} {t : Bool} {a5 : Option Addr} {m d : Nat} (x : AB w p kd s a l c ad n cp t a5 m d) (k : Below w.heap.size w w') :
  w'.cell? ⟨p, 1, none⟩ = some (.bool s) ∧ w'.cell? ⟨p, 2, none⟩ = some (.slice a l c) ∧ w'.cell? ⟨p, 3, none⟩ = some (.slice ad n cp) ∧ w'.cell? ⟨p, 4, none⟩ = some (.bool t) ∧ w'.cell? ⟨p, 5, none⟩ = some (.slice a5 m d) ∧ Below w.heap.size w w' :=
 ⟨(x.below k).c1, (x.below k).c2, (x.below k).c3, (x.below k).c4, (x.below k).c5, k⟩
theorem std_1 (v : Int) (c : Int) (h : c ≠ 0) : Std [(v, c)] := by
 refine ⟨?_, ?_⟩ <;> simp [h]

set_option maxRecDepth 100000 in
set_option maxHeartbeats 6400000 in
/-- the text of a divisibility of one part -/
theorem text_div {w : World} {sd : Bool} {ad : Option Addr} {ld cd : Nat} {ap : Option Addr} {cp : Nat} {sk : Bool} {ak : Option Addr} {lk ck : Nat} {B : Nat} (hd : Zn w sd ad ld cd 3) (hld : ld ≤ B) (hP : Pn w ap 1 [(0, 1)] B) (hk : Zn w sk ak lk ck 0) (hlk : lk ≤ B) (hB : B ≤ 1000) (htab : Tab w) :
  Calls Tryz.prog 30 #[.agg #[.int .i64 3, .bool sd, .slice ad ld cd, .slice ap 1 cp, .bool sk, .slice ak lk ck]] w fun x w' => x = .returned (.string ⟨#[51, 124, 118, 48]⟩) ∧ Below w.heap.size w w' := by
 go_enter Tryz.func30, Tryz.ntmps30
 go_wp2_with fail
 have x := AB.new w 3 sd ad ld cd ap 1 cp sk ak lk ck
 have b0 := below_alloc w (.cells #[.int .i64 3, .bool sd, .slice ad ld cd, .slice ap 1 cp, .bool sk, .slice ak lk ck] 29)
 replace hd := hd.below b0
 replace hP := hP.below b0
 replace hk := hk.below b0
 have htab0 := htab
 clear htab
 generalize w.alloc (.cells #[.int .i64 3, .bool sd, .slice ad ld cd, .slice ap 1 cp, .bool sk, .slice ak lk ck] 29) = wb at *
 generalize hp : w.heap.size = p at *
 replace b0 : Hid (Below w.heap.size w wb) := hp ▸ b0
 replace hp := hide hp
 refine (anorm_n (kd := 3) (B := B) hd.zm hld hP.pr hk.zm hlk (by omega) (by omega)).mono ?_
 rintro e w1 ⟨qs, hS, hc, hA, k1⟩
 obtain rfl : qs = [(0, 1)] := std_unique hS (std_1 0 1 (by decide)) hc
 have hfm : formA 3 3 [(0, 1)] 0 = .inl ⟨3, 3, [(0, 1)], 0⟩ := by unfold formA; rw [if_neg (by decide), if_neg (by decide), if_pos (by decide), if_neg (by decide), form_div2]
 rw [hfm] at hA
 obtain ⟨sd1, ad1, ld1, cd1, ap1, np1, cp1, sk1, ak1, lk1, ck1, rfl, hz1, hlz1, hPn1, hnp1, hk1, hlk1, hnew1⟩ := hA
 dsimp only at hz1 hPn1 hk1
 obtain rfl : np1 = 1 := hPn1.1.symm
 have hplb := x.lt
 have kp0 : w.heap.size ≤ p := by have := hp.out; omega
 replace x := x.below k1
 have hpl := x.lt
 have kk := hide (grow_step k1 b0.out)
 have g6 := ab_set w1 p (.int .i64 3) (.bool sd1) (.slice ad1 ld1 cd1) (.slice ap1 1 cp1) (.bool sk1) (.slice ak1 lk1 ck1)
 have hU := ab_noU x
 have hz2 := hz1.grownU g6 hU
 have hk2 := hk1.grownU g6 hU
 have hP2 := hPn1.away (fun b off e => by have h1 := hnew1 b off e; have h2 := hplb; omega) g6 hU
 have x2 : AB _ p 3 sd1 ad1 ld1 cd1 ap1 1 cp1 sk1 ak1 lk1 ck1 := ab_fin x 3 sd1 ad1 ld1 cd1 ap1 1 cp1 sk1 ak1 lk1 ck1
 have kw2 := hide (below_grown kk.out g6 (by have := hp.out; omega))
 have ht2 : Tab _ := htab0.below kw2.out
 have HH := hide (And.intro hz2 (And.intro hk2 (And.intro hP2 (And.intro x2 ht2))))
 have e0 := x.c0
 have e1 := x.c1
 have e2 := x.c2
 have e3 := x.c3
 have e4 := x.c4
 have e5 := x.c5
 have f0 := x.f 0
 have f1 := x.f 1
 have f2 := x.f 2
 have f3 := x.f 3
 have f4 := x.f 4
 have f5 := x.f 5
 clear hz1 hk1 hPn1 hnew1 hz2 hk2 hP2 x2 ht2 hU g6 hfm hS hc k1
 go_wp2_with fail
 obtain ⟨hz2, hk2, hP2, x2, ht2⟩ := HH.out
 clear HH e0 e1 e2 e3 e4 e5 f0 f1 f2 f3 f4 f5
 generalize (((((w1.setCell ⟨p, 0, none⟩ (.int .i64 3)).setCell ⟨p, 1, none⟩ (.bool sd1)).setCell ⟨p, 2, none⟩ (.slice ad1 ld1 cd1)).setCell ⟨p, 3, none⟩ (.slice ap1 1 cp1)).setCell ⟨p, 4, none⟩ (.bool sk1)).setCell ⟨p, 5, none⟩ (.slice ak1 lk1 ck1) = w2 at *
 replace hP2 : Pn w2 ap1 1 [(((0 : Nat) : Int), 1)] (B + 1 + 16) := hP2
 go_region_held3 (fun w' => w'.cell? ⟨p, 1, none⟩ = some (.bool sd1) ∧ w'.cell? ⟨p, 2, none⟩ = some (.slice ad1 ld1 cd1) ∧ w'.cell? ⟨p, 3, none⟩ = some (.slice ap1 1 cp1) ∧ w'.cell? ⟨p, 4, none⟩ = some (.bool sk1) ∧ w'.cell? ⟨p, 5, none⟩ = some (.slice ak1 lk1 ck1) ∧ Below w2.heap.size w2 w')
  ((refine aq6 x2 ?_; (repeat' (first | with_reducible exact Below.refl _ _ | with_reducible assumption | with_reducible refine grow_step (by with_reducible assumption) ?_ | with_reducible refine grow_drew ?_ | with_reducible refine grow_alloc ?_ _ | with_reducible refine grow_drewN ?_ _))))
  (first | (go_at_call 80; with_reducible refine (ztext_n (Zn.zm (Zn.below hz2 (by (repeat' (first | with_reducible exact Below.refl _ _ | with_reducible assumption | with_reducible refine grow_step (by with_reducible assumption) ?_ | with_reducible refine grow_drew ?_ | with_reducible refine grow_alloc ?_ _ | with_reducible refine grow_drewN ?_ _))))) (by omega) (Tab.below ht2 (by (repeat' (first | with_reducible exact Below.refl _ _ | with_reducible assumption | with_reducible refine grow_step (by with_reducible assumption) ?_ | with_reducible refine grow_drew ?_ | with_reducible refine grow_alloc ?_ _ | with_reducible refine grow_drewN ?_ _))))).mono ?_; rintro e w4 ⟨rfl, hg4⟩; rw [zt_3]) | (go_at_call 79; with_reducible refine (termText_one (Pn.below hP2 (by (repeat' (first | with_reducible exact Below.refl _ _ | with_reducible assumption | with_reducible refine grow_step (by with_reducible assumption) ?_ | with_reducible refine grow_drew ?_ | with_reducible refine grow_alloc ?_ _ | with_reducible refine grow_drewN ?_ _)))) (Zn.below hk2 (by (repeat' (first | with_reducible exact Below.refl _ _ | with_reducible assumption | with_reducible refine grow_step (by with_reducible assumption) ?_ | with_reducible refine grow_drew ?_ | with_reducible refine grow_alloc ?_ _ | with_reducible refine grow_drewN ?_ _)))) hlk1 (by omega) (by decide) (by decide) (Tab.below ht2 (by (repeat' (first | with_reducible exact Below.refl _ _ | with_reducible assumption | with_reducible refine grow_step (by with_reducible assumption) ?_ | with_reducible refine grow_drew ?_ | with_reducible refine grow_alloc ?_ _ | with_reducible refine grow_drewN ?_ _))))).mono ?_; rintro e w5 ⟨rfl, hg5⟩; rw [tt_0]))
 rename_i hH
 have kf := hide (kw2.out.trans (hH.2.2.2.2.2.mono kw2.out.size))
 clear hH hg4 hg5
 go_wp2
 go_ret
 exact ⟨rfl, kf.out⟩

set_option maxRecDepth 100000 in
set_option maxHeartbeats 6400000 in
/-- the text of a comparison of one part -/
theorem text_less {w : World} {sd : Bool} {ad : Option Addr} {ld cd : Nat} {ap : Option Addr} {cp : Nat} {sk : Bool} {ak : Option Addr} {lk ck : Nat} {B : Nat} (hd : Zn w sd ad ld cd 0) (hld : ld ≤ B) (hP : Pn w ap 1 [(1, 1)] B) (hk : Zn w sk ak lk ck 2) (hlk : lk ≤ B) (hB : B ≤ 1000) (htab : Tab w) :
  Calls Tryz.prog 30 #[.agg #[.int .i64 2, .bool sd, .slice ad ld cd, .slice ap 1 cp, .bool sk, .slice ak lk ck]] w fun x w' => x = .returned (.string ⟨#[48, 60, 118, 49, 43, 50]⟩) ∧ Below w.heap.size w w' := by
 go_enter Tryz.func30, Tryz.ntmps30
 go_wp2_with fail
 have x := AB.new w 2 sd ad ld cd ap 1 cp sk ak lk ck
 have b0 := below_alloc w (.cells #[.int .i64 2, .bool sd, .slice ad ld cd, .slice ap 1 cp, .bool sk, .slice ak lk ck] 29)
 replace hd := hd.below b0
 replace hP := hP.below b0
 replace hk := hk.below b0
 have htab0 := htab
 clear htab
 generalize w.alloc (.cells #[.int .i64 2, .bool sd, .slice ad ld cd, .slice ap 1 cp, .bool sk, .slice ak lk ck] 29) = wb at *
 generalize hp : w.heap.size = p at *
 replace b0 : Hid (Below w.heap.size w wb) := hp ▸ b0
 replace hp := hide hp
 refine (anorm_n (kd := 2) (B := B) hd.zm hld hP.pr hk.zm hlk (by omega) (by omega)).mono ?_
 rintro e w1 ⟨qs, hS, hc, hA, k1⟩
 obtain rfl : qs = [(1, 1)] := std_unique hS (std_1 1 1 (by decide)) hc
 have hfm : formA 2 0 [(1, 1)] 2 = .inl ⟨2, 0, [(1, 1)], 2⟩ := by unfold formA; rw [if_neg (by decide), if_pos rfl, form_less2]
 rw [hfm] at hA
 obtain ⟨sd1, ad1, ld1, cd1, ap1, np1, cp1, sk1, ak1, lk1, ck1, rfl, hz1, hlz1, hPn1, hnp1, hk1, hlk1, hnew1⟩ := hA
 dsimp only at hz1 hPn1 hk1
 obtain rfl : np1 = 1 := hPn1.1.symm
 have hplb := x.lt
 have kp0 : w.heap.size ≤ p := by have := hp.out; omega
 replace x := x.below k1
 have hpl := x.lt
 have kk := hide (grow_step k1 b0.out)
 have g6 := ab_set w1 p (.int .i64 2) (.bool sd1) (.slice ad1 ld1 cd1) (.slice ap1 1 cp1) (.bool sk1) (.slice ak1 lk1 ck1)
 have hU := ab_noU x
 have hz2 := hz1.grownU g6 hU
 have hk2 := hk1.grownU g6 hU
 have hP2 := hPn1.away (fun b off e => by have h1 := hnew1 b off e; have h2 := hplb; omega) g6 hU
 have x2 : AB _ p 2 sd1 ad1 ld1 cd1 ap1 1 cp1 sk1 ak1 lk1 ck1 := ab_fin x 2 sd1 ad1 ld1 cd1 ap1 1 cp1 sk1 ak1 lk1 ck1
 have kw2 := hide (below_grown kk.out g6 (by have := hp.out; omega))
 have ht2 : Tab _ := htab0.below kw2.out
 have HH := hide (And.intro hz2 (And.intro hk2 (And.intro hP2 (And.intro x2 ht2))))
 have e0 := x.c0
 have e1 := x.c1
 have e2 := x.c2
 have e3 := x.c3
 have e4 := x.c4
 have e5 := x.c5
 have f0 := x.f 0
 have f1 := x.f 1
 have f2 := x.f 2
 have f3 := x.f 3
 have f4 := x.f 4
 have f5 := x.f 5
 clear hz1 hk1 hPn1 hnew1 hz2 hk2 hP2 x2 ht2 hU g6 hfm hS hc k1
 go_wp2_with fail
 obtain ⟨hz2, hk2, hP2, x2, ht2⟩ := HH.out
 clear HH e0 e1 e2 e3 e4 e5 f0 f1 f2 f3 f4 f5
 generalize (((((w1.setCell ⟨p, 0, none⟩ (.int .i64 2)).setCell ⟨p, 1, none⟩ (.bool sd1)).setCell ⟨p, 2, none⟩ (.slice ad1 ld1 cd1)).setCell ⟨p, 3, none⟩ (.slice ap1 1 cp1)).setCell ⟨p, 4, none⟩ (.bool sk1)).setCell ⟨p, 5, none⟩ (.slice ak1 lk1 ck1) = w2 at *
 replace hP2 : Pn w2 ap1 1 [(((1 : Nat) : Int), 1)] (B + 1 + 16) := hP2
 refine (termText_one hP2 hk2 hlk1 (by omega) (by decide) (by decide) ht2).mono ?_
 rintro e w5 ⟨rfl, k5⟩
 rw [tt_1]
 have kf := hide (kw2.out.trans (k5.mono kw2.out.size))
 clear k5
 go_wp2
 go_ret
 exact ⟨rfl, kf.out⟩
set_option maxRecDepth 100000 in
set_option maxHeartbeats 6400000 in
theorem awake6_n (w : World) (htab : Tab w) :
  Calls Tryz.prog 10 #[] w fun x w' => x = .returned (.bool true) ∧ Below w.heap.size w w' := by
 go_enter Tryz.func10, Tryz.ntmps10
 go_wp2_with fail
 refine (zof_n (-6) (by decide) (by decide) w).mono ?_
 rintro e w1 ⟨s1, a1, l1, c1, rfl, hz1, k1, hl1⟩
 replace k1 := hide k1
 go_wp2_with fail
 refine (zof_n 4 (by decide) (by decide) w1).mono ?_
 rintro e w2 ⟨s2, a2, l2, c2, rfl, hz2, k2, hl2⟩
 replace hz1 := hz1.below k2
 replace k2 := hide (grow_step k2 k1.out)
 clear k1
 go_wp2_with fail
 refine (tvar_n (B := 2) (by unfold I64; decide) (by decide)).mono ?_
 rintro e w3 ⟨ad3, cp3, rs3, rfl, hT3, hrs3⟩
 replace hz1 := hz1.below hT3.below
 replace hz2 := hz2.below hT3.below
 have hP3 := hT3.pn
 rw [hrs3] at hP3
 have hZ3 := hT3.zn
 have k3 := hide (grow_step hT3.below k2.out)
 clear k2 hT3
 go_wp2_with fail
 refine (tscale_n hz2.zm (by omega) hP3.pr hZ3.zm (by decide) (by decide)).mono ?_
 rintro e w4 ⟨ad4, n4, cp4, s4, a4, l4, c4, qs4, rfl, hT4, hn4, hS4, hc4, k4⟩
 obtain rfl : qs4 = [(0, 4)] := std_unique hS4 (std_1 0 4 (by decide)) (fun v => hc4 v)
 replace hz1 := hz1.below k4
 replace k4 := hide (grow_step k4 k3.out)
 obtain ⟨hP4, hZ4, hl4⟩ := hT4
 have hl4' : l4 ≤ 6 := by omega
 replace hP4 := hP4.mono (B' := 6) (by omega)
 clear k3 hl4 hS4 hc4 hz2 hP3 hZ3
 go_wp2_with fail
 refine (adiv_n (B := 6) hz1.zm (by omega) hP4 hZ4 hl4' (by omega) (by omega) (by decide)).mono ?_
 rintro e w5 ⟨qs5, hS5, hc5, hA5, k5⟩
 obtain rfl : qs5 = [(0, 4)] := std_unique hS5 (std_1 0 4 (by decide)) hc5
 rw [show divF 3 (-6) [(0, 4)] (4 * 0) = _ from form_div] at hA5
 obtain ⟨sd5, ad5, ld5, cd5, ap5, np5, cp5, sk5, ak5, lk5, ck5, rfl, hd5, hld5, hP5, hnp5, hk5, hlk5, -⟩ := hA5
 dsimp only at hd5 hP5 hk5
 obtain rfl : np5 = 1 := hP5.1.symm
 have hA5 := AB.new w5 3 sd5 ad5 ld5 cd5 ap5 1 cp5 sk5 ak5 lk5 ck5
 have ka := below_alloc w5 (.cells #[.int .i64 3, .bool sd5, .slice ad5 ld5 cd5, .slice ap5 1 cp5, .bool sk5, .slice ak5 lk5 ck5] 29)
 replace hd5 := hd5.below ka
 replace hP5 := hP5.below ka
 replace hk5 := hk5.below ka
 replace k5 := hide (grow_step ka (grow_step k5 k4.out))
 clear k4 ka hS5 hc5 hP4 hZ4 hz1
 go_wp2_with fail
 generalize w5.alloc (.cells #[.int .i64 3, .bool sd5, .slice ad5 ld5 cd5, .slice ap5 1 cp5, .bool sk5, .slice ak5 lk5 ck5] 29) = wA at *
 generalize w5.heap.size = bA at *
 refine (zof_n 2 (by decide) (by decide) wA).mono ?_
 rintro e w2 ⟨s2, a2, l2, c2, rfl, hz2, k2, hl2⟩
 have KA := hide k2
 have KW := k5
 clear k5 k2
 go_wp2_with fail
 refine (tvar_n (B := 2) (by unfold I64; decide) (by decide)).mono ?_
 rintro e w3 ⟨ad3, cp3, rs3, rfl, hT3, hrs3⟩
 replace hz2 := hz2.below hT3.below
 have hP3 := hT3.pn
 rw [hrs3] at hP3
 have hZ3 := hT3.zn
 replace KA := hide (grow_step hT3.below KA.out)
 clear hT3
 go_wp2_with fail
 refine (tscale_n hz2.zm (by omega) hP3.pr hZ3.zm (by decide) (by decide)).mono ?_
 rintro e w4 ⟨ad4, n4, cp4, s4, a4, l4, c4, qs4, rfl, hT4, hn4, hS4, hc4, k4⟩
 obtain rfl : qs4 = [(1, 2)] := std_unique hS4 (std_1 1 2 (by decide)) (fun v => hc4 v)
 replace KA := hide (grow_step k4 KA.out)
 clear k4 hS4 hc4 hz2 hP3 hZ3
 replace hT4 := hT4.mono (B' := 6) (by omega)
 go_wp2_with fail
 refine (zof_n 3 (by decide) (by decide) w4).mono ?_
 rintro e w6 ⟨s6, a6, l6, c6, rfl, hz6, k6, hl6⟩
 replace hT4 := hT4.below k6
 replace KA := hide (grow_step k6 KA.out)
 clear k6
 go_wp2_with fail
 refine (tconst_n (B := 6) hz6.zm (by omega) (by decide)).mono ?_
 rintro e w7 ⟨s7, a7, l7, c7, rfl, hT7⟩
 replace hT4 := hT4.below hT7.below
 replace KA := hide (grow_step hT7.below KA.out)
 have hT7' := hT7.tw
 clear hT7 hz6
 go_wp2_with fail
 refine (tadd_n (B := 6) hT4.1 hT4.2.1 hT4.2.2 hT7'.1 hT7'.2.1 hT7'.2.2 (by omega)).mono ?_
 rintro e w8 ⟨ad8, n8, cp8, s8, a8, l8, c8, rs8, rfl, hT8, hn8, hS8, hc8⟩
 replace KA := hide (grow_step hT8.below KA.out)
 have hT8' := hT8.tw
 clear hT8 hT4 hT7'
 generalize rs8.map Raw.p = qs8 at *
 obtain rfl : qs8 = [(1, 2)] := std_unique hS8 (std_1 1 2 (by decide)) (fun v => hc8 v)
 obtain ⟨hP8, hZ8, hl8⟩ := hT8'
 replace hP8 := hP8.mono (B' := 12) (by omega)
 go_wp2_with fail
 refine (less_n (B := 12) hP8 hZ8 (by omega) (by omega) (by omega)).mono ?_
 rintro e w9 ⟨qs9, hS9, hc9, hA9, k9⟩
 obtain rfl : qs9 = [(1, 2)] := std_unique hS9 (std_1 1 2 (by decide)) hc9
 rw [show lessF [(1, 2)] (2 * 0 + 3) = _ from form_less] at hA9
 obtain ⟨sd6, ad6, ld6, cd6, ap6, np6, cp6, sk6, ak6, lk6, ck6, rfl, hd6, hld6, hP6, hnp6, hk6, hlk6, -⟩ := hA9
 dsimp only at hd6 hP6 hk6
 obtain rfl : np6 = 1 := hP6.1.symm
 have hA6 := AB.new w9 2 sd6 ad6 ld6 cd6 ap6 1 cp6 sk6 ak6 lk6 ck6
 have kb := below_alloc w9 (.cells #[.int .i64 2, .bool sd6, .slice ad6 ld6 cd6, .slice ap6 1 cp6, .bool sk6, .slice ak6 lk6 ck6] 29)
 replace hd6 := hd6.below kb
 replace hP6 := hP6.below kb
 replace hk6 := hk6.below kb
 replace KA := hide (grow_step kb (grow_step k9 KA.out))
 clear k9 kb hS9 hc9 hS8 hc8 hP8 hZ8
 replace hA5 := hA5.below KA.out
 have u0 := hA5.c0
 have u1 := hA5.c1
 have u2 := hA5.c2
 have u3 := hA5.c3
 have u4 := hA5.c4
 have u5 := hA5.c5
 go_wp2_with fail
 generalize w9.alloc (.cells #[.int .i64 2, .bool sd6, .slice ad6 ld6 cd6, .slice ap6 1 cp6, .bool sk6, .slice ak6 lk6 ck6] 29) = wB at *
 generalize w9.heap.size = bB at *
 have htB : Tab wB := htab.below (grow_step KA.out KW.out)
 refine (text_div (B := 23) (hd5.below KA.out) (by omega) ((hP5.below KA.out).mono (by omega)) (hk5.below KA.out) (by omega) (by decide) htB).mono ?_
 rintro e wC ⟨rfl, kC⟩
 replace hA6 := hA6.below kC
 replace hd6 := hd6.below kC
 replace hP6 := hP6.below kC
 replace hk6 := hk6.below kC
 replace KA := hide (grow_step kC KA.out)
 have htC := htB.below kC
 clear kC u0 u1 u2 u3 u4 u5 hA5 hd5 hP5 hk5 htB
 have u0 := hA6.c0
 have u1 := hA6.c1
 have u2 := hA6.c2
 have u3 := hA6.c3
 have u4 := hA6.c4
 have u5 := hA6.c5
 go_wp2_with fail
 refine (text_less (B := 12 + n8 + 16) hd6 hld6 hP6 hk6 hlk6 (by omega) htC).mono ?_
 rintro e wD ⟨rfl, kD⟩
 have kf := hide (grow_step (grow_step kD KA.out) KW.out)
 clear kD
 go_wp2
 go_ret
 exact ⟨rfl, kf.out⟩

end Go.Proofs.YtjlkmjonadkkdaaGreatDoor
