/-
  Several texts in one: B8, B9, BC, BD, LAtomOpposite.
-/
import Derived.Test.YtofhodimmeiahaaGreatDoorJ10
import Derived.Test.YtofhodimmeiahaaGreatDoorZ5
import Derived.Test.YtofhodimmeiahaaGreatDoorJ5
import Derived.Test.YtofhodimmeiahaaGreatDoorJ8
import Derived.Test.YtofhodimmeiahaaGreatDoorZA
import Derived.Test.YtofhodimmeiahaaGreatDoorZ4
namespace Go.Proofs.YtofhodimmeiahaaGreatDoor
open Go.RowKit Go.Sort Go.Shelf
open Tm At

set_option maxRecDepth 100000 in
set_option maxHeartbeats 6400000 in
theorem adiv_n {w : World} {sd : Bool} {ad : Option Addr} {ld cd : Nat} {ap : Option Addr} {np cp : Nat} {sk : Bool} {ak : Option Addr} {lk ck : Nat} {d k : Int} {ps : List (Int × Int)} {B : Nat}
    (hd : Zm w sd ad ld cd d) (hld : ld ≤ B) (hP : Pr w ap np ps B) (hk : Zm w sk ak lk ck k) (hlk : lk ≤ B) (hn : np ≤ 262144) (hB : B + np + 1 ≤ 4194000) (hd0 : d ≠ 0) :
    Calls Tryz.prog 23 #[.agg #[.bool sd, .slice ad ld cd], .agg #[.slice ap np cp, .bool sk, .slice ak lk ck]] w fun e w' => ∃ qs, Std qs ∧ (∀ v, csum qs v = csum ps v) ∧ AE w' e (divF 3 d qs k) (B + np + 16) w.heap.size ∧ Below w.heap.size w w' := by
  go_enter Tryz.func23, Tryz.ntmps23
  go_wp2_with fail
  have y := AB.new ((w.alloc (.cells #[.bool sd, .slice ad ld cd] 24)).alloc (.cells #[.slice ap np cp, .bool sk, .slice ak lk ck] 27)) 0 false none 0 0 none 0 0 false none 0 0
  rw [show ((w.alloc (.cells #[.bool sd, .slice ad ld cd] 24)).alloc (.cells #[.slice ap np cp, .bool sk, .slice ak lk ck] 27)).heap.size = w.heap.size + 1 + 1 from by simp] at y
  have b0 : Below w.heap.size w (((w.alloc (.cells #[.bool sd, .slice ad ld cd] 24)).alloc (.cells #[.slice ap np cp, .bool sk, .slice ak lk ck] 27)).alloc (.cells #[.int .i64 0, .bool false, .slice none 0 0, .slice none 0 0, .bool false, .slice none 0 0] 29)) := below_alloc' (below_alloc' (below_alloc _ _) _) _
  generalize ((w.alloc (.cells #[.bool sd, .slice ad ld cd] 24)).alloc (.cells #[.slice ap np cp, .bool sk, .slice ak lk ck] 27)).alloc (.cells #[.int .i64 0, .bool false, .slice none 0 0, .slice none 0 0, .bool false, .slice none 0 0] 29) = wb at *
  have hr : w.heap.size ≤ w.heap.size + 1 + 1 := by omega
  generalize w.heap.size + 1 + 1 = r at *
  refine (anorm_n (kd := 3) (hd.below b0) hld (hP.below b0) (hk.below b0) hlk hn hB).mono ?_
  rintro e w1 ⟨qs, hS, hc, hA, k1⟩
  have hfm : formA 3 d qs k = .inl (divF 3 d qs k) := by unfold formA; rw [if_neg (by decide), if_neg (by decide), if_pos (by decide), if_neg hd0]
  rw [hfm] at hA
  clear hfm
  obtain ⟨sd1, ad1, ld1, cd1, ap1, np1, cp1, sk1, ak1, lk1, ck1, rfl, hz1, hlz1, hPn1, hnp1, hk1, hlk1, hnew1⟩ := hA
  generalize hff : divF 3 d qs k = ff at *
  replace hff := hide hff
  have hrl := y.lt
  have hbs := b0.size
  replace y := y.below k1
  have e0 := y.c0
  have e1 := y.c1
  have e2 := y.c2
  have e3 := y.c3
  have e4 := y.c4
  have e5 := y.c5
  have f0 := y.f 0
  have f1 := y.f 1
  have f2 := y.f 2
  have f3 := y.f 3
  have f4 := y.f 4
  have f5 := y.f 5
  have g6 := ab_set w1 r (.int .i64 ff.kind) (.bool sd1) (.slice ad1 ld1 cd1) (.slice ap1 np1 cp1) (.bool sk1) (.slice ak1 lk1 ck1)
  have hPf := hide (hPn1.away (fun b off e => by have := hnew1 b off e; omega) g6 (ab_noU y))
  have hzf := hide (hk1.grownU g6 (ab_noU y))
  have hdf := hide (hz1.grownU g6 (ab_noU y))
  have kf := hide (below_grown (grow_step k1 b0) g6 hr)
  have hnw : Hid (∀ b off, ap1 = some ⟨b, off, none⟩ → w.heap.size ≤ b) := (fun b off e => by have h1 := hnew1 b off e; omega)
  replace hS := hide hS
  replace hc := hide hc
  clear g6 hPn1 hk1 hz1 hnew1 hP hd hk b0 k1
  go_wp2
  refine bodyPost_ret (results_ct rfl _ _ r 29 _ (0, 0) _ rfl (ab_fin y ff.kind sd1 ad1 ld1 cd1 ap1 np1 cp1 sk1 ak1 lk1 ck1) Tryz.underlying29 rfl (by kernel_rfl)) rfl ?_
  refine ⟨qs, hS.out, hc.out, ?_, kf.out⟩
  rw [hff.out]
  exact ⟨sd1, ad1, ld1, cd1, ap1, np1, cp1, sk1, ak1, lk1, ck1, by simp, hdf.out, hlz1, hPf.out, hnp1, hzf.out, hlk1, hnw.out⟩

set_option maxRecDepth 100000 in
set_option maxHeartbeats 1600000 in
theorem itoa_small (i : Nat) (h : i < 100) (w : World) :
    Calls Tryz.prog 87 #[.int .i64 i] w fun e w' => e = .returned (.string ⟨(Lib.decDigits i).toArray⟩) ∧ Below w.heap.size w w' := by
  have hf : Calls Tryz.prog 124 #[.int .i64 i, .int .i64 10] w fun e w' => e = .returned (.string ⟨(Lib.decDigits i).toArray⟩) ∧ Below w.heap.size w w' := by
    go_enter Tryz.func124, Tryz.ntmps124
    go_wp2_with (go_at_call 137; refine (small_lay i h _).mono ?_; rintro e w' ⟨rfl, rfl⟩)
    go_ret
    exact ⟨rfl, Below.refl _ _⟩
  have hi : Calls Tryz.prog 103 #[.int .i64 i] w fun e w' => e = .returned (.string ⟨(Lib.decDigits i).toArray⟩) ∧ Below w.heap.size w w' := by
    go_enter Tryz.func103, Tryz.ntmps103
    go_wp2_with fail
    refine hf.mono ?_
    rintro e w' ⟨rfl, hb⟩
    go_wp2
    go_ret
    exact ⟨rfl, hb⟩
  go_enter Tryz.func87, Tryz.ntmps87
  go_wp2_with fail
  refine hi.mono ?_
  rintro e w' ⟨rfl, hb⟩
  go_wp2
  go_ret
  exact ⟨rfl, hb⟩

set_option maxRecDepth 100000 in
set_option maxHeartbeats 1600000 in
theorem sign6_n {w : World} {s : Bool} {a : Option Addr} {l c : Nat} : Calls Tryz.prog 86 #[.agg #[.bool s, .slice a l c]] w fun e w' => e = .returned (.string ⟨#[if s then 45 else 43]⟩) ∧ Below w.heap.size w w' := by
  have hk := below_alloc w (.cells #[.bool s, .slice a l c] 24)
  cases s with
  | true =>
    go_enter Tryz.func86, Tryz.ntmps86
    go_wp2
    go_ret
    exact ⟨rfl, hk⟩
  | false =>
    go_enter Tryz.func86, Tryz.ntmps86
    go_wp2
    go_ret
    exact ⟨rfl, hk⟩

theorem ztext_one : zText (((1 : Int).natAbs : Nat) : Int) = ⟨#[49]⟩ := by
  unfold zText
  rw [if_neg (by decide)]
  show (⟨(Lib.decDigits 1).toArray⟩ : ByteArray) = _
  rw [Lib.decDigits_one (by decide)]
  rfl
theorem dec_sm6 {v : Nat} (h : v < 100) : (Lib.decDigits v).length ≤ 2 := by
  by_cases h1 : v < 10
  · rw [Lib.decDigits_one h1]; simp
  · rw [Lib.decDigits_two h1 h]; simp

theorem ba_cons (x : UInt8) (D : List UInt8) : (⟨#[x]⟩ ++ ⟨D.toArray⟩ : ByteArray) = ⟨(x :: D).toArray⟩ := by
  apply ByteArray.ext
  simp [ByteArray.data_append]
theorem tqr {w w' : World} {p r : Nat} {ad : Option Addr} {n cp : Nat} {s : Bool} {a : Option Addr} {l c : Nat} (x : TB w p ad n cp s a l c) (hp : p < r) (k : Below r w w') : w'.cell? ⟨p, 1, none⟩ = some (.bool s) ∧ w'.cell? ⟨p, 2, none⟩ = some (.slice a l c) :=
  ⟨(k.cell (p := ⟨p, 1, none⟩) hp).trans x.c1, (k.cell (p := ⟨p, 2, none⟩) hp).trans x.c2⟩
theorem Zn.plus {w : World} {s : Bool} {a : Option Addr} {l c : Nat} {z : Int} (h : Zn w s a l c z) (hz : 0 ≤ z) : s = false := by
  obtain ⟨n, hn, rfl, h0⟩ := h
  cases s with
  | false => rfl
  | true =>
    have h1 := hn.nm.nonneg
    have h2 := h0 rfl
    simp [sg] at hz
    omega

set_option maxRecDepth 100000 in
set_option maxHeartbeats 6400000 in
/-- the text of a term of one part, of the coefficient 1 -/
theorem termText_one {w : World} {ap : Option Addr} {cp : Nat} {sk : Bool} {ak : Option Addr} {lk ck : Nat} {k : Int} {v B : Nat} (hP : Pn w ap 1 [((v : Int), 1)] B) (hk : Zn w sk ak lk ck k) (hlk : lk ≤ B) (hB : B ≤ 1048576) (hv : v < 100) (hk0 : 0 ≤ k) (htab : Tab w) :
    Calls Tryz.prog 62 #[.agg #[.slice ap 1 cp, .bool sk, .slice ak lk ck]] w fun e w' => e = .returned (.string ⟨(118 :: Lib.decDigits v ++ if k = 0 then [] else 43 :: Lib.decDigits k.toNat).toArray⟩) ∧ Below w.heap.size w w' := by
  go_enter Tryz.func62, Tryz.ntmps62
  go_wp2_with fail
  have x := (tb_new w ap 1 cp sk ak lk ck).below (below_alloc _ (.cells #[.pointer none, .slice none 0 0] 112))
  have hbu := builder_new 112 5 (w.alloc (.cells #[.slice ap 1 cp, .bool sk, .slice ak lk ck] 27))
  rw [show (w.alloc (.cells #[.slice ap 1 cp, .bool sk, .slice ak lk ck] 27)).heap.size = w.heap.size + 1 from by simp] at hbu
  have hsz : w.heap.size + 1 + 1 ≤ ((w.alloc (.cells #[.slice ap 1 cp, .bool sk, .slice ak lk ck] 27)).alloc (.cells #[.pointer none, .slice none 0 0] 112)).heap.size := by simp
  have b0 : Below w.heap.size w ((w.alloc (.cells #[.slice ap 1 cp, .bool sk, .slice ak lk ck] 27)).alloc (.cells #[.pointer none, .slice none 0 0] 112)) := below_alloc' (below_alloc _ _) _
  generalize ((w.alloc (.cells #[.slice ap 1 cp, .bool sk, .slice ak lk ck] 27)).alloc (.cells #[.pointer none, .slice none 0 0] 112)) = wb at *
  have hr1 : w.heap.size < w.heap.size + 1 := by omega
  have hrb : w.heap.size + 1 + 1 ≤ wb.heap.size := hsz
  generalize w.heap.size + 1 = r at *
  generalize hp : w.heap.size = p at *
  replace hp := hide hp
  replace b0 : Hid (Below w.heap.size w wb) := hp.out.symm ▸ b0
  go_loopw [10] (fun i wr => ((i = .int .i64 0 ∧ Lib.IsBuilder 112 5 r r (Lib.byteCells []) wr) ∨ (i = .int .i64 1 ∧ Lib.IsBuilder 112 5 r r (Lib.byteCells (118 :: Lib.decDigits v)) wr)) ∧ Hid (Below r wb wr)) (fun i _ => 1 - (intOf i).toNat)
  case atStart => exact ⟨.inl ⟨rfl, hbu⟩, Below.refl _ _⟩
  case round =>
    obtain ⟨hcase, kr⟩ := hrel
    clear hbu
    have kw : Hid (Below w.heap.size w wr) := b0.out.trans (kr.out.mono (by have := hp.out; omega))
    have hrw : r + 1 ≤ wr.heap.size := Nat.le_trans hrb kr.out.size
    have xr : TB wr p ap 1 cp sk ak lk ck := (kr.out.block p hr1).trans x
    rcases hcase with ⟨rfl, hbu⟩ | ⟨rfl, hbu⟩
    · obtain ⟨-, hPP⟩ := hP.below kw.out
      rcases hPP with h0 | ⟨bp, op, rfl, hbp, hPP⟩
      · omega
      obtain ⟨s, a, l, c, e0, e1, e2, hz, hl, -⟩ := hPP 0 (by simp)
      rw [show ([((v : Int), (1 : Int))] : List (Int × Int))[0] = ((v : Int), 1) from rfl] at e0 hz
      dsimp only at e0 hz
      rw [Nat.zero_mul, Nat.add_zero] at e0 e1 e2
      obtain rfl := hz.plus (by decide)
      have pb := pb_new wr v false a l c
      have kp := below_alloc wr (.cells #[.int .i64 v, .bool false, .slice a l c] 52)
      have hbup := builder_below hbu kp
      have HH := hide (And.intro pb (And.intro kp (And.intro hbup (hz.below kp))))
      clear pb kp hbup hPP
      go_wp2_with fail
      obtain ⟨pb, kp, hbup, hzp⟩ := HH.out
      clear HH hbu hz e0 e1 e2
      have hqr : r + 1 ≤ (wr.alloc (.cells #[.int .i64 v, .bool false, .slice a l c] 52)).heap.size := Nat.le_trans hrw kp.size
      replace kr := hide (kr.out.trans (kp.mono (by omega)))
      generalize wr.alloc (.cells #[.int .i64 v, .bool false, .slice a l c] 52) = wp at *
      refine (abs_n hzp.zm (by omega)).mono ?_
      rintro e w1 ⟨s1, a1, l1, c1, rfl, hz1, k1, hl1⟩
      replace hbup := builder_below hbup k1
      replace pb := pb.below9 k1
      replace kr := hide (kr.out.trans (k1.mono (by omega)))
      have hq1 : r + 1 ≤ w1.heap.size := Nat.le_trans hqr k1.size
      have ht1 : Tab w1 := htab.below (b0.out.trans (kr.out.mono (by have := hp.out; omega)))
      clear k1 hzp kp
      go_wp2_with fail
      refine (ztext_n hz1.zm (by omega) ht1).mono ?_
      rintro e w2 ⟨rfl, k2⟩
      rw [ztext_one]
      replace hbup := builder_below hbup k2
      replace pb := pb.below9 k2
      replace kr := hide (kr.out.trans (k2.mono (by omega)))
      have hq2 : r + 1 ≤ w2.heap.size := Nat.le_trans hq1 k2.size
      clear k2 hz1 ht1
      have q0 := pb.c0
      go_wp2_with fail
      refine (itoa_small v hv _).mono ?_
      rintro e w3 ⟨rfl, k3⟩
      replace hbup := builder_below hbup k3
      replace kr := hide (kr.out.trans (k3.mono (by omega)))
      have hq3 : r + 1 ≤ w3.heap.size := Nat.le_trans hq2 k3.size
      have hd2 := dec_sm6 hv
      clear k3 q0
      generalize hD : Lib.decDigits v = D at *
      go_wp2_with fail
      rw [ba_cons]
      refine (write_lay r r _ _ w3 hbup (by rw [Lib.byteCells_length, size_list]; simp; omega) (by omega)).mono ?_
      rintro e w4 ⟨rfl, hbu4, k4⟩
      rw [strCells_list, byteCells_append, List.nil_append] at hbu4
      have kr4 := hide (kr.out.trans k4)
      clear hbup k4 kr
      go_wp2
      go_round
      case rel => exact ⟨.inr ⟨rfl, .inr (by rw [hD]; exact hbu4)⟩, kr4.out⟩
      case measure => simp [intOf]
    · have q1 := xr.c1
      have q2 := xr.c2
      go_wp2_with fail
      have hkr := hk.below kw.out
      refine (zsign_n hkr.zm (by omega)).mono ?_
      rintro e w1 ⟨rfl, k1⟩
      have hbu1 := builder_below hbu k1
      have x1 := xr.below k1
      have hk1 := hkr.below k1
      have hq1 : r + 1 ≤ w1.heap.size := Nat.le_trans hrw k1.size
      have kr1 := hide (kr.out.trans (k1.mono (by omega)))
      clear hbu xr hkr k1 q1 q2 kr
      by_cases hk00 : k = 0
      · subst hk00
        rw [show cmpI 0 0 = 0 from rfl]
        go_wp2_with fail
        refine (string_lay _ _ _ w1 hbu1 (by omega)).mono ?_
        rintro e w2 ⟨rfl, k2⟩
        have kf : Hid (Below w.heap.size w w2) := (b0.out.trans ((kr1.out.trans k2).mono (by have := hp.out; omega)))
        clear k2
        go_wp2
        go_ret
        exact ⟨by first | rfl | simp, kf.out⟩
      · rw [show cmpI k 0 = 1 from cmpI_gt (by omega)]
        obtain rfl := hk1.plus hk0
        have ht1 : Tab w1 := htab.below (b0.out.trans (kr1.out.mono (by have := hp.out; omega)))
        obtain ⟨n9, h9, h8, -⟩ := id hk1
        have hkn : Nm w1 ak lk ck k := by
          have h7 : k = n9 := by simpa [sg] using h8
          rw [h7]; exact h9.nm
        have hdl := dec_bound hkn
        have hzt : Hid (zText ((k.natAbs : Nat) : Int) = ⟨(Lib.decDigits k.toNat).toArray⟩) := (show _ = _ by unfold zText; rw [if_neg (by omega)]; congr 3; omega)
        have hres : Hid ((118 :: (Lib.decDigits v ++ if k = 0 then [] else 43 :: Lib.decDigits k.toNat)) = 118 :: Lib.decDigits v ++ (43 :: Lib.decDigits k.toNat)) := (show _ = _ by rw [if_neg hk00]; rfl)
        clear hkn h9 h8
        generalize hDk : Lib.decDigits k.toNat = D at *
        replace hDk := hide hDk
        replace hdl : D.length ≤ 10485770 := by omega
        have hrle : r ≤ w1.heap.size := by omega
        have hdv := dec_sm6 hv
        go_wp2_with fail
        have q1 := x1.c1
        have q2 := x1.c2
        go_region_with (first | (go_at_call 86; with_reducible refine (sign6_n).mono ?_; rintro e w2 ⟨rfl, hg2⟩; have q3 := (TB.below x1 (show Below w1.heap.size w1 w2 by (repeat' (first | with_reducible exact Below.refl _ _ | with_reducible assumption | with_reducible refine grow_step (by with_reducible assumption) ?_ | with_reducible refine grow_drew ?_ | with_reducible refine grow_alloc ?_ _ | with_reducible refine grow_drewN ?_ _)))).c1; have q4 := (TB.below x1 (show Below w1.heap.size w1 w2 by (repeat' (first | with_reducible exact Below.refl _ _ | with_reducible assumption | with_reducible refine grow_step (by with_reducible assumption) ?_ | with_reducible refine grow_drew ?_ | with_reducible refine grow_alloc ?_ _ | with_reducible refine grow_drewN ?_ _)))).c2) | (go_at_call 16; with_reducible refine (abs_n (Zn.zm (Zn.below hk1 (by (repeat' (first | with_reducible exact Below.refl _ _ | with_reducible assumption | with_reducible refine grow_step (by with_reducible assumption) ?_ | with_reducible refine grow_drew ?_ | with_reducible refine grow_alloc ?_ _ | with_reducible refine grow_drewN ?_ _))))) (by omega)).mono ?_; rintro e w3 ⟨s3, a3, l3, c3, rfl, hz3, hg3, hl3⟩) | (go_at_call 63; with_reducible refine (ztext_n (Zn.zm (Zn.below hz3 (by (repeat' (first | with_reducible exact Below.refl _ _ | with_reducible assumption | with_reducible refine grow_step (by with_reducible assumption) ?_ | with_reducible refine grow_drew ?_ | with_reducible refine grow_alloc ?_ _ | with_reducible refine grow_drewN ?_ _))))) (by omega) (Tab.below ht1 (by (repeat' (first | with_reducible exact Below.refl _ _ | with_reducible assumption | with_reducible refine grow_step (by with_reducible assumption) ?_ | with_reducible refine grow_drew ?_ | with_reducible refine grow_alloc ?_ _ | with_reducible refine grow_drewN ?_ _))))).mono ?_; rintro e w4 ⟨rfl, hg4⟩; rw [hzt.out]) | (go_at_call 85; refine (write_lay r r _ _ _ (builder_below hbu1 (by (repeat' (first | with_reducible exact Below.refl _ _ | with_reducible assumption | with_reducible refine grow_step (by with_reducible assumption) ?_ | with_reducible refine grow_drew ?_ | with_reducible refine grow_alloc ?_ _ | with_reducible refine grow_drewN ?_ _)))) (by rw [Lib.byteCells_length, ba_cons, size_list]; simp; omega) (Nat.le_trans hrle (Below.size (show Below w1.heap.size w1 _ by (repeat' (first | with_reducible exact Below.refl _ _ | with_reducible assumption | with_reducible refine grow_step (by with_reducible assumption) ?_ | with_reducible refine grow_drew ?_ | with_reducible refine grow_alloc ?_ _ | with_reducible refine grow_drewN ?_ _)))))).mono ?_; rintro e w5 ⟨rfl, hbu5, hW⟩))
        all_goals
          rw [ba_cons, strCells_list, byteCells_append, ← hres.out] at hbu5
          have kw5 : Below r w1 w5 := Below.trans (Below.mono (show Below w1.heap.size w1 w4 by (repeat' (first | with_reducible exact Below.refl _ _ | with_reducible assumption | with_reducible refine grow_step (by with_reducible assumption) ?_ | with_reducible refine grow_drew ?_ | with_reducible refine grow_alloc ?_ _ | with_reducible refine grow_drewN ?_ _))) hrle) hW
          have hs5 : r ≤ w5.heap.size := Nat.le_trans hrle kw5.size
          have kr5 := hide (kr1.out.trans kw5)
          clear kw5 hW hg2 hg3 hg4 hbu1 kr1
          go_wp2_with fail
          refine (string_lay _ _ _ w5 (.inr hbu5) hs5).mono ?_
          rintro e w6 ⟨rfl, k6⟩
          have kf : Hid (Below w.heap.size w w6) := (b0.out.trans ((kr5.out.trans k6).mono (by have := hp.out; omega)))
          clear k6
          go_wp2
          go_ret
          exact ⟨by simp; exact hDk.out.symm, kf.out⟩
end Go.Proofs.YtofhodimmeiahaaGreatDoor

namespace Go.Proofs.YtofhodimmeiahaaGreatDoor
open Go.RowKit Go.Sort Go.Shelf
open Tm At

/-- the form of 'v0 times 4 is divided by -6' -/
theorem form_div : divF 3 (-6) [(0, 4)] 0 = ⟨3, 3, [(0, 1)], 0⟩ := by rfl
theorem form_less : lessF [(1, 2)] 3 = ⟨2, 0, [(1, 1)], 2⟩ := by rfl
theorem form_div2 : divF 3 3 [(0, 1)] 0 = ⟨3, 3, [(0, 1)], 0⟩ := by rfl
theorem form_less2 : lessF [(1, 1)] 2 = ⟨2, 0, [(1, 1)], 2⟩ := by rfl
theorem zt_3 : zText 3 = ⟨#[51]⟩ := by
  unfold zText
  rw [if_neg (by decide)]
  show (⟨(Lib.decDigits 3).toArray⟩ : ByteArray) = _
  rw [Lib.decDigits_one (by decide)]
  rfl
theorem tt_0 : (⟨(118 :: Lib.decDigits 0 ++ if (0 : Int) = 0 then [] else 43 :: Lib.decDigits (0 : Int).toNat).toArray⟩ : ByteArray) = ⟨#[118, 48]⟩ := by
  rw [if_pos rfl, Lib.decDigits_one (by decide)]
  rfl
theorem tt_1 : (⟨(118 :: Lib.decDigits 1 ++ if (2 : Int) = 0 then [] else 43 :: Lib.decDigits (2 : Int).toNat).toArray⟩ : ByteArray) = ⟨#[118, 49, 43, 50]⟩ := by
  rw [if_neg (by decide), show (2 : Int).toNat = 2 from rfl, Lib.decDigits_one (by decide), Lib.decDigits_one (by decide)]
  rfl
theorem aq6 {w w' : World} {p : Nat} {kd : Int} {s : Bool} {a : Option Addr} {l c : Nat} {ad : Option Addr} {n cp : Nat} {t : Bool} {a5 : Option Addr} {m d : Nat} (x : AB w p kd s a l c ad n cp t a5 m d) (k : Below w.heap.size w w') :
    w'.cell? ⟨p, 1, none⟩ = some (.bool s) ∧ w'.cell? ⟨p, 2, none⟩ = some (.slice a l c) ∧ w'.cell? ⟨p, 3, none⟩ = some (.slice ad n cp) ∧ w'.cell? ⟨p, 4, none⟩ = some (.bool t) ∧ w'.cell? ⟨p, 5, none⟩ = some (.slice a5 m d) ∧ Below w.heap.size w w' :=
  ⟨(x.below k).c1, (x.below k).c2, (x.below k).c3, (x.below k).c4, (x.below k).c5, k⟩
theorem std_1 (v : Int) (c : Int) (h : c ≠ 0) : Std [(v, c)] := by
  refine ⟨?_, ?_⟩ <;> simp [h]

set_option maxRecDepth 100000 in
set_option maxHeartbeats 6400000 in
/-- the text of a divisibility of one part -/
theorem text_div {w : World} {sd : Bool} {ad : Option Addr} {ld cd : Nat} {ap : Option Addr} {cp : Nat} {sk : Bool} {ak : Option Addr} {lk ck : Nat} {B : Nat} (hd : Zn w sd ad ld cd 3) (hld : ld ≤ B) (hP : Pn w ap 1 [(0, 1)] B) (hk : Zn w sk ak lk ck 0) (hlk : lk ≤ B) (hB : B ≤ 1000) (htab : Tab w) :
    Calls Tryz.prog 29 #[.agg #[.int .i64 3, .bool sd, .slice ad ld cd, .slice ap 1 cp, .bool sk, .slice ak lk ck]] w fun x w' => x = .returned (.string ⟨#[51, 124, 118, 48]⟩) ∧ Below w.heap.size w w' := by
  go_enter Tryz.func29, Tryz.ntmps29
  go_wp2_with fail
  have x := AB.new w 3 sd ad ld cd ap 1 cp sk ak lk ck
  have b0 := below_alloc w (.cells #[.int .i64 3, .bool sd, .slice ad ld cd, .slice ap 1 cp, .bool sk, .slice ak lk ck] 29)
  replace hd := hd.below b0
  replace hP := hP.below b0
  replace hk := hk.below b0
  have htab0 := htab
  clear htab
  generalize w.alloc (.cells #[.int .i64 3, .bool sd, .slice ad ld cd, .slice ap 1 cp, .bool sk, .slice ak lk ck] 29) = wb at *
  generalize hp : w.heap.size = p at *
  replace b0 : Hid (Below w.heap.size w wb) := hp ▸ b0
  replace hp := hide hp
  refine (anorm_n (kd := 3) (B := B) hd.zm hld hP.pr hk.zm hlk (by omega) (by omega)).mono ?_
  rintro e w1 ⟨qs, hS, hc, hA, k1⟩
  obtain rfl : qs = [(0, 1)] := std_unique hS (std_1 0 1 (by decide)) hc
  have hfm : formA 3 3 [(0, 1)] 0 = .inl ⟨3, 3, [(0, 1)], 0⟩ := by unfold formA; rw [if_neg (by decide), if_neg (by decide), if_pos (by decide), if_neg (by decide), form_div2]
  rw [hfm] at hA
  obtain ⟨sd1, ad1, ld1, cd1, ap1, np1, cp1, sk1, ak1, lk1, ck1, rfl, hz1, hlz1, hPn1, hnp1, hk1, hlk1, hnew1⟩ := hA
  dsimp only at hz1 hPn1 hk1
  obtain rfl : np1 = 1 := hPn1.1.symm
  have hplb := x.lt
  have kp0 : w.heap.size ≤ p := by have := hp.out; omega
  replace x := x.below k1
  have hpl := x.lt
  have kk := hide (grow_step k1 b0.out)
  have g6 := ab_set w1 p (.int .i64 3) (.bool sd1) (.slice ad1 ld1 cd1) (.slice ap1 1 cp1) (.bool sk1) (.slice ak1 lk1 ck1)
  have hU := ab_noU x
  have hz2 := hz1.grownU g6 hU
  have hk2 := hk1.grownU g6 hU
  have hP2 := hPn1.away (fun b off e => by have h1 := hnew1 b off e; have h2 := hplb; omega) g6 hU
  have x2 : AB _ p 3 sd1 ad1 ld1 cd1 ap1 1 cp1 sk1 ak1 lk1 ck1 := ab_fin x 3 sd1 ad1 ld1 cd1 ap1 1 cp1 sk1 ak1 lk1 ck1
  have kw2 := hide (below_grown kk.out g6 (by have := hp.out; omega))
  have ht2 : Tab _ := htab0.below kw2.out
  have HH := hide (And.intro hz2 (And.intro hk2 (And.intro hP2 (And.intro x2 ht2))))
  have e0 := x.c0
  have e1 := x.c1
  have e2 := x.c2
  have e3 := x.c3
  have e4 := x.c4
  have e5 := x.c5
  have f0 := x.f 0
  have f1 := x.f 1
  have f2 := x.f 2
  have f3 := x.f 3
  have f4 := x.f 4
  have f5 := x.f 5
  clear hz1 hk1 hPn1 hnew1 hz2 hk2 hP2 x2 ht2 hU g6 hfm hS hc k1
  go_wp2_with fail
  obtain ⟨hz2, hk2, hP2, x2, ht2⟩ := HH.out
  clear HH e0 e1 e2 e3 e4 e5 f0 f1 f2 f3 f4 f5
  generalize (((((w1.setCell ⟨p, 0, none⟩ (.int .i64 3)).setCell ⟨p, 1, none⟩ (.bool sd1)).setCell ⟨p, 2, none⟩ (.slice ad1 ld1 cd1)).setCell ⟨p, 3, none⟩ (.slice ap1 1 cp1)).setCell ⟨p, 4, none⟩ (.bool sk1)).setCell ⟨p, 5, none⟩ (.slice ak1 lk1 ck1) = w2 at *
  replace hP2 : Pn w2 ap1 1 [(((0 : Nat) : Int), 1)] (B + 1 + 16) := hP2
  go_region_held3 (fun w' => w'.cell? ⟨p, 1, none⟩ = some (.bool sd1) ∧ w'.cell? ⟨p, 2, none⟩ = some (.slice ad1 ld1 cd1) ∧ w'.cell? ⟨p, 3, none⟩ = some (.slice ap1 1 cp1) ∧ w'.cell? ⟨p, 4, none⟩ = some (.bool sk1) ∧ w'.cell? ⟨p, 5, none⟩ = some (.slice ak1 lk1 ck1) ∧ Below w2.heap.size w2 w')
    ((refine aq6 x2 ?_; (repeat' (first | with_reducible exact Below.refl _ _ | with_reducible assumption | with_reducible refine grow_step (by with_reducible assumption) ?_ | with_reducible refine grow_drew ?_ | with_reducible refine grow_alloc ?_ _ | with_reducible refine grow_drewN ?_ _))))
    (first | (go_at_call 63; with_reducible refine (ztext_n (Zn.zm (Zn.below hz2 (by (repeat' (first | with_reducible exact Below.refl _ _ | with_reducible assumption | with_reducible refine grow_step (by with_reducible assumption) ?_ | with_reducible refine grow_drew ?_ | with_reducible refine grow_alloc ?_ _ | with_reducible refine grow_drewN ?_ _))))) (by omega) (Tab.below ht2 (by (repeat' (first | with_reducible exact Below.refl _ _ | with_reducible assumption | with_reducible refine grow_step (by with_reducible assumption) ?_ | with_reducible refine grow_drew ?_ | with_reducible refine grow_alloc ?_ _ | with_reducible refine grow_drewN ?_ _))))).mono ?_; rintro e w4 ⟨rfl, hg4⟩; rw [zt_3]) | (go_at_call 62; with_reducible refine (termText_one (Pn.below hP2 (by (repeat' (first | with_reducible exact Below.refl _ _ | with_reducible assumption | with_reducible refine grow_step (by with_reducible assumption) ?_ | with_reducible refine grow_drew ?_ | with_reducible refine grow_alloc ?_ _ | with_reducible refine grow_drewN ?_ _)))) (Zn.below hk2 (by (repeat' (first | with_reducible exact Below.refl _ _ | with_reducible assumption | with_reducible refine grow_step (by with_reducible assumption) ?_ | with_reducible refine grow_drew ?_ | with_reducible refine grow_alloc ?_ _ | with_reducible refine grow_drewN ?_ _)))) hlk1 (by omega) (by decide) (by decide) (Tab.below ht2 (by (repeat' (first | with_reducible exact Below.refl _ _ | with_reducible assumption | with_reducible refine grow_step (by with_reducible assumption) ?_ | with_reducible refine grow_drew ?_ | with_reducible refine grow_alloc ?_ _ | with_reducible refine grow_drewN ?_ _))))).mono ?_; rintro e w5 ⟨rfl, hg5⟩; rw [tt_0]))
  rename_i hH
  have kf := hide (kw2.out.trans (hH.2.2.2.2.2.mono kw2.out.size))
  clear hH hg4 hg5
  go_wp2
  go_ret
  exact ⟨rfl, kf.out⟩

set_option maxRecDepth 100000 in
set_option maxHeartbeats 6400000 in
/-- the text of a comparison of one part -/
theorem text_less {w : World} {sd : Bool} {ad : Option Addr} {ld cd : Nat} {ap : Option Addr} {cp : Nat} {sk : Bool} {ak : Option Addr} {lk ck : Nat} {B : Nat} (hd : Zn w sd ad ld cd 0) (hld : ld ≤ B) (hP : Pn w ap 1 [(1, 1)] B) (hk : Zn w sk ak lk ck 2) (hlk : lk ≤ B) (hB : B ≤ 1000) (htab : Tab w) :
    Calls Tryz.prog 29 #[.agg #[.int .i64 2, .bool sd, .slice ad ld cd, .slice ap 1 cp, .bool sk, .slice ak lk ck]] w fun x w' => x = .returned (.string ⟨#[48, 60, 118, 49, 43, 50]⟩) ∧ Below w.heap.size w w' := by
  go_enter Tryz.func29, Tryz.ntmps29
  go_wp2_with fail
  have x := AB.new w 2 sd ad ld cd ap 1 cp sk ak lk ck
  have b0 := below_alloc w (.cells #[.int .i64 2, .bool sd, .slice ad ld cd, .slice ap 1 cp, .bool sk, .slice ak lk ck] 29)
  replace hd := hd.below b0
  replace hP := hP.below b0
  replace hk := hk.below b0
  have htab0 := htab
  clear htab
  generalize w.alloc (.cells #[.int .i64 2, .bool sd, .slice ad ld cd, .slice ap 1 cp, .bool sk, .slice ak lk ck] 29) = wb at *
  generalize hp : w.heap.size = p at *
  replace b0 : Hid (Below w.heap.size w wb) := hp ▸ b0
  replace hp := hide hp
  refine (anorm_n (kd := 2) (B := B) hd.zm hld hP.pr hk.zm hlk (by omega) (by omega)).mono ?_
  rintro e w1 ⟨qs, hS, hc, hA, k1⟩
  obtain rfl : qs = [(1, 1)] := std_unique hS (std_1 1 1 (by decide)) hc
  have hfm : formA 2 0 [(1, 1)] 2 = .inl ⟨2, 0, [(1, 1)], 2⟩ := by unfold formA; rw [if_neg (by decide), if_pos rfl, form_less2]
  rw [hfm] at hA
  obtain ⟨sd1, ad1, ld1, cd1, ap1, np1, cp1, sk1, ak1, lk1, ck1, rfl, hz1, hlz1, hPn1, hnp1, hk1, hlk1, hnew1⟩ := hA
  dsimp only at hz1 hPn1 hk1
  obtain rfl : np1 = 1 := hPn1.1.symm
  have hplb := x.lt
  have kp0 : w.heap.size ≤ p := by have := hp.out; omega
  replace x := x.below k1
  have hpl := x.lt
  have kk := hide (grow_step k1 b0.out)
  have g6 := ab_set w1 p (.int .i64 2) (.bool sd1) (.slice ad1 ld1 cd1) (.slice ap1 1 cp1) (.bool sk1) (.slice ak1 lk1 ck1)
  have hU := ab_noU x
  have hz2 := hz1.grownU g6 hU
  have hk2 := hk1.grownU g6 hU
  have hP2 := hPn1.away (fun b off e => by have h1 := hnew1 b off e; have h2 := hplb; omega) g6 hU
  have x2 : AB _ p 2 sd1 ad1 ld1 cd1 ap1 1 cp1 sk1 ak1 lk1 ck1 := ab_fin x 2 sd1 ad1 ld1 cd1 ap1 1 cp1 sk1 ak1 lk1 ck1
  have kw2 := hide (below_grown kk.out g6 (by have := hp.out; omega))
  have ht2 : Tab _ := htab0.below kw2.out
  have HH := hide (And.intro hz2 (And.intro hk2 (And.intro hP2 (And.intro x2 ht2))))
  have e0 := x.c0
  have e1 := x.c1
  have e2 := x.c2
  have e3 := x.c3
  have e4 := x.c4
  have e5 := x.c5
  have f0 := x.f 0
  have f1 := x.f 1
  have f2 := x.f 2
  have f3 := x.f 3
  have f4 := x.f 4
  have f5 := x.f 5
  clear hz1 hk1 hPn1 hnew1 hz2 hk2 hP2 x2 ht2 hU g6 hfm hS hc k1
  go_wp2_with fail
  obtain ⟨hz2, hk2, hP2, x2, ht2⟩ := HH.out
  clear HH e0 e1 e2 e3 e4 e5 f0 f1 f2 f3 f4 f5
  generalize (((((w1.setCell ⟨p, 0, none⟩ (.int .i64 2)).setCell ⟨p, 1, none⟩ (.bool sd1)).setCell ⟨p, 2, none⟩ (.slice ad1 ld1 cd1)).setCell ⟨p, 3, none⟩ (.slice ap1 1 cp1)).setCell ⟨p, 4, none⟩ (.bool sk1)).setCell ⟨p, 5, none⟩ (.slice ak1 lk1 ck1) = w2 at *
  replace hP2 : Pn w2 ap1 1 [(((1 : Nat) : Int), 1)] (B + 1 + 16) := hP2
  refine (termText_one hP2 hk2 hlk1 (by omega) (by decide) (by decide) ht2).mono ?_
  rintro e w5 ⟨rfl, k5⟩
  rw [tt_1]
  have kf := hide (kw2.out.trans (k5.mono kw2.out.size))
  clear k5
  go_wp2
  go_ret
  exact ⟨rfl, kf.out⟩
set_option maxRecDepth 100000 in
set_option maxHeartbeats 6400000 in
theorem awake6_n (w : World) (htab : Tab w) :
    Calls Tryz.prog 7 #[] w fun x w' => x = .returned (.bool true) ∧ Below w.heap.size w w' := by
  go_enter Tryz.func7, Tryz.ntmps7
  go_wp2_with fail
  refine (zof_n (-6) (by decide) (by decide) w).mono ?_
  rintro e w1 ⟨s1, a1, l1, c1, rfl, hz1, k1, hl1⟩
  replace k1 := hide k1
  go_wp2_with fail
  refine (zof_n 4 (by decide) (by decide) w1).mono ?_
  rintro e w2 ⟨s2, a2, l2, c2, rfl, hz2, k2, hl2⟩
  replace hz1 := hz1.below k2
  replace k2 := hide (grow_step k2 k1.out)
  clear k1
  go_wp2_with fail
  refine (tvar_n (B := 2) (by unfold I64; decide) (by decide)).mono ?_
  rintro e w3 ⟨ad3, cp3, rs3, rfl, hT3, hrs3⟩
  replace hz1 := hz1.below hT3.below
  replace hz2 := hz2.below hT3.below
  have hP3 := hT3.pn
  rw [hrs3] at hP3
  have hZ3 := hT3.zn
  have k3 := hide (grow_step hT3.below k2.out)
  clear k2 hT3
  go_wp2_with fail
  refine (tscale_n hz2.zm (by omega) hP3.pr hZ3.zm (by decide) (by decide)).mono ?_
  rintro e w4 ⟨ad4, n4, cp4, s4, a4, l4, c4, qs4, rfl, hT4, hn4, hS4, hc4, k4⟩
  obtain rfl : qs4 = [(0, 4)] := std_unique hS4 (std_1 0 4 (by decide)) (fun v => hc4 v)
  replace hz1 := hz1.below k4
  replace k4 := hide (grow_step k4 k3.out)
  obtain ⟨hP4, hZ4, hl4⟩ := hT4
  have hl4' : l4 ≤ 6 := by omega
  replace hP4 := hP4.mono (B' := 6) (by omega)
  clear k3 hl4 hS4 hc4 hz2 hP3 hZ3
  go_wp2_with fail
  refine (adiv_n (B := 6) hz1.zm (by omega) hP4 hZ4 hl4' (by omega) (by omega) (by decide)).mono ?_
  rintro e w5 ⟨qs5, hS5, hc5, hA5, k5⟩
  obtain rfl : qs5 = [(0, 4)] := std_unique hS5 (std_1 0 4 (by decide)) hc5
  rw [show divF 3 (-6) [(0, 4)] (4 * 0) = _ from form_div] at hA5
  obtain ⟨sd5, ad5, ld5, cd5, ap5, np5, cp5, sk5, ak5, lk5, ck5, rfl, hd5, hld5, hP5, hnp5, hk5, hlk5, -⟩ := hA5
  dsimp only at hd5 hP5 hk5
  obtain rfl : np5 = 1 := hP5.1.symm
  have hA5 := AB.new w5 3 sd5 ad5 ld5 cd5 ap5 1 cp5 sk5 ak5 lk5 ck5
  have ka := below_alloc w5 (.cells #[.int .i64 3, .bool sd5, .slice ad5 ld5 cd5, .slice ap5 1 cp5, .bool sk5, .slice ak5 lk5 ck5] 29)
  replace hd5 := hd5.below ka
  replace hP5 := hP5.below ka
  replace hk5 := hk5.below ka
  replace k5 := hide (grow_step ka (grow_step k5 k4.out))
  clear k4 ka hS5 hc5 hP4 hZ4 hz1
  go_wp2_with fail
  generalize w5.alloc (.cells #[.int .i64 3, .bool sd5, .slice ad5 ld5 cd5, .slice ap5 1 cp5, .bool sk5, .slice ak5 lk5 ck5] 29) = wA at *
  generalize w5.heap.size = bA at *
  refine (zof_n 2 (by decide) (by decide) wA).mono ?_
  rintro e w2 ⟨s2, a2, l2, c2, rfl, hz2, k2, hl2⟩
  have KA := hide k2
  have KW := k5
  clear k5 k2
  go_wp2_with fail
  refine (tvar_n (B := 2) (by unfold I64; decide) (by decide)).mono ?_
  rintro e w3 ⟨ad3, cp3, rs3, rfl, hT3, hrs3⟩
  replace hz2 := hz2.below hT3.below
  have hP3 := hT3.pn
  rw [hrs3] at hP3
  have hZ3 := hT3.zn
  replace KA := hide (grow_step hT3.below KA.out)
  clear hT3
  go_wp2_with fail
  refine (tscale_n hz2.zm (by omega) hP3.pr hZ3.zm (by decide) (by decide)).mono ?_
  rintro e w4 ⟨ad4, n4, cp4, s4, a4, l4, c4, qs4, rfl, hT4, hn4, hS4, hc4, k4⟩
  obtain rfl : qs4 = [(1, 2)] := std_unique hS4 (std_1 1 2 (by decide)) (fun v => hc4 v)
  replace KA := hide (grow_step k4 KA.out)
  clear k4 hS4 hc4 hz2 hP3 hZ3
  replace hT4 := hT4.mono (B' := 6) (by omega)
  go_wp2_with fail
  refine (zof_n 3 (by decide) (by decide) w4).mono ?_
  rintro e w6 ⟨s6, a6, l6, c6, rfl, hz6, k6, hl6⟩
  replace hT4 := hT4.below k6
  replace KA := hide (grow_step k6 KA.out)
  clear k6
  go_wp2_with fail
  refine (tconst_n (B := 6) hz6.zm (by omega) (by decide)).mono ?_
  rintro e w7 ⟨s7, a7, l7, c7, rfl, hT7⟩
  replace hT4 := hT4.below hT7.below
  replace KA := hide (grow_step hT7.below KA.out)
  have hT7' := hT7.tw
  clear hT7 hz6
  go_wp2_with fail
  refine (tadd_n (B := 6) hT4.1 hT4.2.1 hT4.2.2 hT7'.1 hT7'.2.1 hT7'.2.2 (by omega)).mono ?_
  rintro e w8 ⟨ad8, n8, cp8, s8, a8, l8, c8, rs8, rfl, hT8, hn8, hS8, hc8⟩
  replace KA := hide (grow_step hT8.below KA.out)
  have hT8' := hT8.tw
  clear hT8 hT4 hT7'
  generalize rs8.map Raw.p = qs8 at *
  obtain rfl : qs8 = [(1, 2)] := std_unique hS8 (std_1 1 2 (by decide)) (fun v => hc8 v)
  obtain ⟨hP8, hZ8, hl8⟩ := hT8'
  replace hP8 := hP8.mono (B' := 12) (by omega)
  go_wp2_with fail
  refine (less_n (B := 12) hP8 hZ8 (by omega) (by omega) (by omega)).mono ?_
  rintro e w9 ⟨qs9, hS9, hc9, hA9, k9⟩
  obtain rfl : qs9 = [(1, 2)] := std_unique hS9 (std_1 1 2 (by decide)) hc9
  rw [show lessF [(1, 2)] (2 * 0 + 3) = _ from form_less] at hA9
  obtain ⟨sd6, ad6, ld6, cd6, ap6, np6, cp6, sk6, ak6, lk6, ck6, rfl, hd6, hld6, hP6, hnp6, hk6, hlk6, -⟩ := hA9
  dsimp only at hd6 hP6 hk6
  obtain rfl : np6 = 1 := hP6.1.symm
  have hA6 := AB.new w9 2 sd6 ad6 ld6 cd6 ap6 1 cp6 sk6 ak6 lk6 ck6
  have kb := below_alloc w9 (.cells #[.int .i64 2, .bool sd6, .slice ad6 ld6 cd6, .slice ap6 1 cp6, .bool sk6, .slice ak6 lk6 ck6] 29)
  replace hd6 := hd6.below kb
  replace hP6 := hP6.below kb
  replace hk6 := hk6.below kb
  replace KA := hide (grow_step kb (grow_step k9 KA.out))
  clear k9 kb hS9 hc9 hS8 hc8 hP8 hZ8
  replace hA5 := hA5.below KA.out
  have u0 := hA5.c0
  have u1 := hA5.c1
  have u2 := hA5.c2
  have u3 := hA5.c3
  have u4 := hA5.c4
  have u5 := hA5.c5
  go_wp2_with fail
  generalize w9.alloc (.cells #[.int .i64 2, .bool sd6, .slice ad6 ld6 cd6, .slice ap6 1 cp6, .bool sk6, .slice ak6 lk6 ck6] 29) = wB at *
  generalize w9.heap.size = bB at *
  have htB : Tab wB := htab.below (grow_step KA.out KW.out)
  refine (text_div (B := 23) (hd5.below KA.out) (by omega) ((hP5.below KA.out).mono (by omega)) (hk5.below KA.out) (by omega) (by decide) htB).mono ?_
  rintro e wC ⟨rfl, kC⟩
  replace hA6 := hA6.below kC
  replace hd6 := hd6.below kC
  replace hP6 := hP6.below kC
  replace hk6 := hk6.below kC
  replace KA := hide (grow_step kC KA.out)
  have htC := htB.below kC
  clear kC u0 u1 u2 u3 u4 u5 hA5 hd5 hP5 hk5 htB
  have u0 := hA6.c0
  have u1 := hA6.c1
  have u2 := hA6.c2
  have u3 := hA6.c3
  have u4 := hA6.c4
  have u5 := hA6.c5
  go_wp2_with fail
  refine (text_less (B := 12 + n8 + 16) hd6 hld6 hP6 hk6 hlk6 (by omega) htC).mono ?_
  rintro e wD ⟨rfl, kD⟩
  have kf := hide (grow_step (grow_step kD KA.out) KW.out)
  clear kD
  go_wp2
  go_ret
  exact ⟨rfl, kf.out⟩

end Go.Proofs.YtofhodimmeiahaaGreatDoor

namespace Go.Proofs.YtofhodimmeiahaaGreatDoor
open Go.RowKit Go.Sort Go.Shelf
open Tm At

/-- the order of two atoms, field by field -/
def ordA (k1 k2 d1 d2 : Int) (ps qs : List (Int × Int)) (c1 c2 : Int) : Int := if cmpI k1 k2 ≠ 0 then cmpI k1 k2 else if cmpI d1 d2 ≠ 0 then cmpI d1 d2 else ordT ps qs c1 c2

theorem ordA_self (k d : Int) (ps : List (Int × Int)) (c : Int) : ordA k k d d ps ps c c = 0 := by simp [ordA, cmpI_self, ordT_self]

set_option maxRecDepth 100000 in
set_option maxHeartbeats 6400000 in
theorem aorder_n {w : World} {kd : Int} {sd : Bool} {ad : Option Addr} {ld cd : Nat} {ap : Option Addr} {np cp : Nat} {sk : Bool} {ak : Option Addr} {lk ck : Nat} {d k : Int} {ps : List (Int × Int)} {kd2 : Int} {sd2 : Bool} {ad2 : Option Addr} {ld2 cd2 : Nat} {ap2 : Option Addr} {np2 cp2 : Nat} {sk2 : Bool} {ak2 : Option Addr} {lk2 ck2 : Nat} {d2 k2 : Int} {qs : List (Int × Int)} {B : Nat}
    (hd : Zm w sd ad ld cd d) (hld : ld ≤ B) (hP : Pr w ap np ps B) (hk : Zm w sk ak lk ck k) (hlk : lk ≤ B) (hd2 : Zm w sd2 ad2 ld2 cd2 d2) (hld2 : ld2 ≤ B) (hP2 : Pr w ap2 np2 qs B) (hk2 : Zm w sk2 ak2 lk2 ck2 k2) (hlk2 : lk2 ≤ B) (hB : B + np ≤ 268435456) (hB2 : B + np2 ≤ 268435456) :
    Calls Tryz.prog 34 #[.agg #[.int .i64 kd, .bool sd, .slice ad ld cd, .slice ap np cp, .bool sk, .slice ak lk ck], .agg #[.int .i64 kd2, .bool sd2, .slice ad2 ld2 cd2, .slice ap2 np2 cp2, .bool sk2, .slice ak2 lk2 ck2]] w fun e w' => ∃ ps' qs', e = .returned (.int .i64 (ordA kd kd2 d d2 ps' qs' k k2)) ∧ Std ps' ∧ Std qs' ∧ (∀ v, csum ps' v = csum ps v) ∧ (∀ v, csum qs' v = csum qs v) ∧ Below w.heap.size w w' := by
  go_enter Tryz.func34, Tryz.ntmps34
  go_wp2_with fail
  have x := (AB.new w kd sd ad ld cd ap np cp sk ak lk ck).below (below_alloc _ (.cells #[.int .i64 kd2, .bool sd2, .slice ad2 ld2 cd2, .slice ap2 np2 cp2, .bool sk2, .slice ak2 lk2 ck2] 29))
  have y := AB.new (w.alloc (.cells #[.int .i64 kd, .bool sd, .slice ad ld cd, .slice ap np cp, .bool sk, .slice ak lk ck] 29)) kd2 sd2 ad2 ld2 cd2 ap2 np2 cp2 sk2 ak2 lk2 ck2
  have b0 : Below w.heap.size w ((w.alloc (.cells #[.int .i64 kd, .bool sd, .slice ad ld cd, .slice ap np cp, .bool sk, .slice ak lk ck] 29)).alloc (.cells #[.int .i64 kd2, .bool sd2, .slice ad2 ld2 cd2, .slice ap2 np2 cp2, .bool sk2, .slice ak2 lk2 ck2] 29)) := below_alloc' (below_alloc _ _) _
  rw [show (w.alloc (.cells #[.int .i64 kd, .bool sd, .slice ad ld cd, .slice ap np cp, .bool sk, .slice ak lk ck] 29)).heap.size = w.heap.size + 1 from by simp] at y
  generalize (w.alloc (.cells #[.int .i64 kd, .bool sd, .slice ad ld cd, .slice ap np cp, .bool sk, .slice ak lk ck] 29)).alloc (.cells #[.int .i64 kd2, .bool sd2, .slice ad2 ld2 cd2, .slice ap2 np2 cp2, .bool sk2, .slice ak2 lk2 ck2] 29) = wb at *
  replace hd := hd.below b0
  replace hP := hP.below b0
  replace hk := hk.below b0
  replace hd2 := hd2.below b0
  replace hP2 := hP2.below b0
  replace hk2 := hk2.below b0
  generalize hp : w.heap.size = p at *
  replace b0 : Hid (Below w.heap.size w wb) := hp ▸ b0
  clear hp
  generalize p + 1 = q at *
  refine (compare_n).mono ?_
  rintro e w1 ⟨rfl, k1⟩
  replace x := x.below k1
  replace y := y.below k1
  replace hd := hd.below k1
  replace hP := hP.below k1
  replace hk := hk.below k1
  replace hd2 := hd2.below k1
  replace hP2 := hP2.below k1
  replace hk2 := hk2.below k1
  have kk := hide (grow_step k1 b0.out)
  clear k1 b0
  by_cases hc1 : cmpI kd kd2 = 0
  · rw [hc1]
    have e1 := x.c1
    have e2 := x.c2
    have f1 := y.c1
    have f2 := y.c2
    go_wp2_with fail
    refine (zcmp_n hd hd2 (by omega) (by omega)).mono ?_
    rintro e w2 ⟨rfl, k2⟩
    replace x := x.below k2
    replace y := y.below k2
    replace hP := hP.below k2
    replace hk := hk.below k2
    replace hP2 := hP2.below k2
    replace hk2 := hk2.below k2
    replace kk := hide (grow_step k2 kk.out)
    clear k2 e1 e2 f1 f2 hd hd2
    by_cases hc2 : cmpI d d2 = 0
    · rw [hc2]
      have e3 := x.c3
      have e4 := x.c4
      have e5 := x.c5
      have f3 := y.c3
      have f4 := y.c4
      have f5 := y.c5
      go_wp2_with fail
      refine (torder_n hP hk hlk hP2 hk2 hlk2 hB hB2).mono ?_
      rintro e w3 ⟨ps', qs', rfl, h1, h2, h3, h4, k3⟩
      have hfin : Hid (ordT ps' qs' k k2 = ordA kd kd2 d d2 ps' qs' k k2) := (show _ = _ by unfold ordA; rw [if_neg (by simp [hc1]), if_neg (by simp [hc2])])
      replace kk := hide (grow_step k3 kk.out)
      generalize ordT ps' qs' k k2 = o at *
      replace h1 := hide h1
      replace h2 := hide h2
      replace h3 := hide h3
      replace h4 := hide h4
      clear k3 e3 e4 e5 f3 f4 f5
      go_wp2
      go_ret
      exact ⟨ps', qs', by rw [← hfin.out]; first | rfl | simp, h1.out, h2.out, h3.out, h4.out, kk.out⟩
    · have hfin : Hid (cmpI d d2 = ordA kd kd2 d d2 (nz (lays [] ps)) (nz (lays [] qs)) k k2) := (show _ = _ by unfold ordA; rw [if_neg (by simp [hc1]), if_pos hc2])
      generalize cmpI d d2 = o at *
      have i0 : (o == 0) = false := by rw [beq_eq_false_iff_ne]; exact hc2
      go_wp2
      go_ret
      exact ⟨_, _, by rw [← hfin.out]; first | rfl | simp, std_lays ps, std_lays qs, fun v => csum_nzl ps v, fun v => csum_nzl qs v, kk.out⟩
  · have hfin : Hid (cmpI kd kd2 = ordA kd kd2 d d2 (nz (lays [] ps)) (nz (lays [] qs)) k k2) := (show _ = _ by unfold ordA; rw [if_pos hc1])
    generalize cmpI kd kd2 = o at *
    have i0 : (o == 0) = false := by rw [beq_eq_false_iff_ne]; exact hc1
    go_wp2
    go_ret
    exact ⟨_, _, by rw [← hfin.out]; first | rfl | simp, std_lays ps, std_lays qs, fun v => csum_nzl ps v, fun v => csum_nzl qs v, kk.out⟩

set_option maxRecDepth 100000 in
set_option maxHeartbeats 6400000 in
/-- a form stands as it should -/
theorem avalid_t {w : World} {f : Atm} {sd : Bool} {ad : Option Addr} {ld cd : Nat} {ap : Option Addr} {np cp : Nat} {sk : Bool} {ak : Option Addr} {lk ck : Nat} {B : Nat}
    (hf : Fit f) (hd : Zn w sd ad ld cd f.d) (hld : ld ≤ B) (hP : Pn w ap np f.ps B) (hk : Zn w sk ak lk ck f.k) (hlk : lk ≤ B) (hn : np ≤ 262144) (hB : B + np + 1 ≤ 4194000) :
    Calls Tryz.prog 11 #[.agg #[.int .i64 f.kind, .bool sd, .slice ad ld cd, .slice ap np cp, .bool sk, .slice ak lk ck]] w fun e w' => e = .returned (.bool true) ∧ Below w.heap.size w w' := by
  obtain ⟨fk, fd, fps, fkk⟩ := f
  dsimp only at hd hP hk ⊢
  replace hf := hide hf
  go_enter Tryz.func11, Tryz.ntmps11
  go_wp2_with fail
  have x := AB.new w fk sd ad ld cd ap np cp sk ak lk ck
  have b0 := below_alloc w (.cells #[.int .i64 fk, .bool sd, .slice ad ld cd, .slice ap np cp, .bool sk, .slice ak lk ck] 29)
  replace hd := hd.below b0
  replace hP := hP.below b0
  replace hk := hk.below b0
  generalize w.alloc (.cells #[.int .i64 fk, .bool sd, .slice ad ld cd, .slice ap np cp, .bool sk, .slice ak lk ck] 29) = wb at *
  generalize hp : w.heap.size = p at *
  replace b0 : Hid (Below w.heap.size w wb) := hp ▸ b0
  clear hp
  refine (anorm_n hd.zm hld hP.pr hk.zm hlk hn hB).mono ?_
  rintro e w1 ⟨qs, hS, hc, hA, k1⟩
  obtain rfl : qs = fps := std_unique hS hf.out.std hc
  have hag : formA fk fd qs fkk = .inl ⟨fk, fd, qs, fkk⟩ := hf.out.again
  rw [hag] at hA
  obtain ⟨sd1, ad1, ld1, cd1, ap1, np1, cp1, sk1, ak1, lk1, ck1, rfl, hz1, hlz1, hPn1, hnp1, hk1, hlk1, -⟩ := hA
  dsimp only at hz1 hPn1 hk1
  obtain rfl : np1 = np := hPn1.1.symm.trans hP.1
  clear hag hc
  have y := AB.new w1 fk sd1 ad1 ld1 cd1 ap1 np1 cp1 sk1 ak1 lk1 ck1
  have ka := below_alloc w1 (.cells #[.int .i64 fk, .bool sd1, .slice ad1 ld1 cd1, .slice ap1 np1 cp1, .bool sk1, .slice ak1 lk1 ck1] 29)
  have x1 := x.below k1
  have e1 := x1.c1
  have e2 := x1.c2
  have e3 := x1.c3
  have e4 := x1.c4
  have e5 := x1.c5
  have hxl := x1.lt
  replace x := x1.below ka
  replace hd := (hd.below k1).below ka
  replace hP := (hP.below k1).below ka
  replace hk := (hk.below k1).below ka
  replace hz1 := hz1.below ka
  replace hPn1 := hPn1.below ka
  replace hk1 := hk1.below ka
  have kk := hide (grow_step ka (grow_step k1 b0.out))
  clear k1 b0
  have HH := hide (And.intro x (And.intro y (And.intro hd (And.intro hP (And.intro hk (And.intro hz1 (And.intro hPn1 hk1)))))))
  clear x y hd hP hk hz1 hPn1 hk1 ka x1
  go_wp2_with fail
  obtain ⟨x, y, hd, hP, hk, hz1, hPn1, hk1⟩ := HH.out
  clear HH e1 e2 e3 e4 e5
  generalize w1.alloc (.cells #[.int .i64 fk, .bool sd1, .slice ad1 ld1 cd1, .slice ap1 np1 cp1, .bool sk1, .slice ak1 lk1 ck1] 29) = wn at *
  generalize w1.heap.size = bn at *
  obtain ⟨xd, hrd, hsd, -⟩ := hd.stands
  refine (zvalid_n hrd).mono ?_
  rintro e w2 ⟨rfl, k2⟩
  rw [hsd]
  replace x := x.below k2
  replace y := y.below k2
  replace hd := hd.below k2
  replace hP := hP.below k2
  replace hk := hk.below k2
  replace hz1 := hz1.below k2
  replace hPn1 := hPn1.below k2
  replace hk1 := hk1.below k2
  replace kk := hide (grow_step k2 kk.out)
  clear k2 hrd hsd
  have e3 := x.c3
  have e4 := x.c4
  have e5 := x.c5
  go_wp2_with fail
  obtain ⟨X, hX, hVX⟩ := pn_px hP hS
  obtain ⟨xk, hrk, hsk, -⟩ := hk.stands
  refine (tvalid_n hX hrk (by omega) (by omega)).mono ?_
  rintro e w3 ⟨b3, rfl, hb3, k3⟩
  obtain rfl := hb3.2 ⟨hVX, hsk⟩
  replace x := x.below k3
  replace y := y.below k3
  replace hd := hd.below k3
  replace hP := hP.below k3
  replace hk := hk.below k3
  replace hz1 := hz1.below k3
  replace hPn1 := hPn1.below k3
  replace hk1 := hk1.below k3
  replace kk := hide (grow_step k3 kk.out)
  clear k3 hX hVX hrk hsk hb3 e3 e4 e5
  have e0 := x.c0
  have e1 := x.c1
  have e2 := x.c2
  have e3 := x.c3
  have e4 := x.c4
  have e5 := x.c5
  have f0 := y.c0
  have f1 := y.c1
  have f2 := y.c2
  have f3 := y.c3
  have f4 := y.c4
  have f5 := y.c5
  go_wp2_with fail
  refine (aorder_n (B := B + np1 + 16) hd.zm (by omega) (hP.pr.mono (by omega)) hk.zm (by omega) hz1.zm hlz1 hPn1.pr hk1.zm hlk1 (by omega) (by omega)).mono ?_
  rintro e w4 ⟨ps', qs', rfl, h1, h2, h3, h4, k4⟩
  obtain rfl : ps' = qs := std_unique h1 hS h3
  obtain rfl : qs' = ps' := std_unique h2 hS h4
  rw [ordA_self]
  have kf := hide (grow_step k4 kk.out)
  clear k4 kk h1 h2 h3 h4 e0 e1 e2 e3 e4 e5 f0 f1 f2 f3 f4 f5
  go_wp2
  go_ret
  exact ⟨rfl, kf.out⟩

set_option maxRecDepth 100000 in
set_option maxHeartbeats 6400000 in
/-- a form is the same as itself, wherever both lie -/
theorem same6_t {w : World} {f : Atm} {sd : Bool} {ad : Option Addr} {ld cd : Nat} {ap : Option Addr} {np cp : Nat} {sk : Bool} {ak : Option Addr} {lk ck : Nat} {sd2 : Bool} {ad2 : Option Addr} {ld2 cd2 : Nat} {ap2 : Option Addr} {np2 cp2 : Nat} {sk2 : Bool} {ak2 : Option Addr} {lk2 ck2 : Nat} {B : Nat}
    (hS : Std f.ps) (hd : Zn w sd ad ld cd f.d) (hld : ld ≤ B) (hP : Pn w ap np f.ps B) (hk : Zn w sk ak lk ck f.k) (hlk : lk ≤ B) (hd2 : Zn w sd2 ad2 ld2 cd2 f.d) (hld2 : ld2 ≤ B) (hP2 : Pn w ap2 np2 f.ps B) (hk2 : Zn w sk2 ak2 lk2 ck2 f.k) (hlk2 : lk2 ≤ B) (hB : B + np ≤ 268435456) (hB2 : B + np2 ≤ 268435456) :
    Calls Tryz.prog 12 #[.agg #[.int .i64 f.kind, .bool sd, .slice ad ld cd, .slice ap np cp, .bool sk, .slice ak lk ck], .agg #[.int .i64 f.kind, .bool sd2, .slice ad2 ld2 cd2, .slice ap2 np2 cp2, .bool sk2, .slice ak2 lk2 ck2]] w fun e w' => e = .returned (.bool true) ∧ Below w.heap.size w w' := by
  obtain ⟨fk, fd, fps, fkk⟩ := f
  dsimp only at hS hd hP hk hd2 hP2 hk2 ⊢
  go_enter Tryz.func12, Tryz.ntmps12
  go_wp2_with fail
  have x := (AB.new w fk sd ad ld cd ap np cp sk ak lk ck).below (below_alloc _ (.cells #[.int .i64 fk, .bool sd2, .slice ad2 ld2 cd2, .slice ap2 np2 cp2, .bool sk2, .slice ak2 lk2 ck2] 29))
  have y := AB.new (w.alloc (.cells #[.int .i64 fk, .bool sd, .slice ad ld cd, .slice ap np cp, .bool sk, .slice ak lk ck] 29)) fk sd2 ad2 ld2 cd2 ap2 np2 cp2 sk2 ak2 lk2 ck2
  have b0 : Below w.heap.size w ((w.alloc (.cells #[.int .i64 fk, .bool sd, .slice ad ld cd, .slice ap np cp, .bool sk, .slice ak lk ck] 29)).alloc (.cells #[.int .i64 fk, .bool sd2, .slice ad2 ld2 cd2, .slice ap2 np2 cp2, .bool sk2, .slice ak2 lk2 ck2] 29)) := below_alloc' (below_alloc _ _) _
  rw [show (w.alloc (.cells #[.int .i64 fk, .bool sd, .slice ad ld cd, .slice ap np cp, .bool sk, .slice ak lk ck] 29)).heap.size = w.heap.size + 1 from by simp] at y
  generalize (w.alloc (.cells #[.int .i64 fk, .bool sd, .slice ad ld cd, .slice ap np cp, .bool sk, .slice ak lk ck] 29)).alloc (.cells #[.int .i64 fk, .bool sd2, .slice ad2 ld2 cd2, .slice ap2 np2 cp2, .bool sk2, .slice ak2 lk2 ck2] 29) = wb at *
  replace hd := hd.below b0
  replace hP := hP.below b0
  replace hk := hk.below b0
  replace hd2 := hd2.below b0
  replace hP2 := hP2.below b0
  replace hk2 := hk2.below b0
  replace hS := hide hS
  generalize hp : w.heap.size = p at *
  replace b0 : Hid (Below w.heap.size w wb) := hp ▸ b0
  clear hp
  generalize p + 1 = q at *
  refine (ris_t hd hd2.zm (by omega) (by omega) rfl).mono ?_
  rintro e w1 ⟨rfl, k1⟩
  replace x := x.below k1
  replace y := y.below k1
  replace hd2 := hd2.below k1
  replace hP := hP.below k1
  replace hk := hk.below k1
  replace hP2 := hP2.below k1
  replace hk2 := hk2.below k1
  have kk := hide (grow_step k1 b0.out)
  clear k1 b0 hd
  have f1 := y.c1
  have f2 := y.c2
  go_wp2_with fail
  refine (rvalid_t hd2 (by omega)).mono ?_
  rintro e w2 ⟨rfl, k2⟩
  replace x := x.below k2
  replace y := y.below k2
  replace hP := hP.below k2
  replace hk := hk.below k2
  replace hP2 := hP2.below k2
  replace hk2 := hk2.below k2
  replace kk := hide (grow_step k2 kk.out)
  clear k2 hd2 f1 f2
  have e3 := x.c3
  have e4 := x.c4
  have e5 := x.c5
  have f3 := y.c3
  have f4 := y.c4
  have f5 := y.c5
  go_wp2_with fail
  refine (same5_t hS.out hP hk hlk hP2 hk2 hlk2 hB hB2).mono ?_
  rintro e w3 ⟨rfl, k3⟩
  replace x := x.below k3
  replace y := y.below k3
  replace kk := hide (grow_step k3 kk.out)
  clear k3 e3 e4 e5 f3 f4 f5
  have e0 := x.c0
  have f0 := y.c0
  go_wp2
  go_ret
  exact ⟨rfl, kk.out⟩
end Go.Proofs.YtofhodimmeiahaaGreatDoor

namespace Go.Proofs.YtofhodimmeiahaaGreatDoor
open Go.RowKit Go.Sort Go.Shelf
open Tm At

/-- no atom -/
def A0v (e : Ending) : Prop := e = .returned (.agg #[.int .i64 0, .bool false, .slice none 0 0, .slice none 0 0, .bool false, .slice none 0 0])
theorem aq3r {w w' : World} {p r : Nat} {kd : Int} {s : Bool} {a : Option Addr} {l c : Nat} {ad : Option Addr} {n cp : Nat} {t : Bool} {b : Option Addr} {m d : Nat} (x : AB w p kd s a l c ad n cp t b m d) (hp : p < r) (k : Below r w w') :
    w'.cell? ⟨p, 3, none⟩ = some (.slice ad n cp) ∧ w'.cell? ⟨p, 4, none⟩ = some (.bool t) ∧ w'.cell? ⟨p, 5, none⟩ = some (.slice b m d) ∧ Below r w w' := by
  have x' : AB w' p kd s a l c ad n cp t b m d := (k.block p hp).trans x
  exact ⟨x'.c3, x'.c4, x'.c5, k⟩
/-- what Negate answers -/
def NG (w : World) (e : Ending) (f : Atm ⊕ Int) (B B0 : Nat) : Prop := match f with
  | .inl f => AW w e (negA f) B B0
  | .inr _ => A0v e
theorem AB.neq {w : World} {p r : Nat} {kd : Int} {s : Bool} {a : Option Addr} {l c : Nat} {ad : Option Addr} {n cp : Nat} {t : Bool} {b : Option Addr} {m d : Nat} {w' : World} (h : AB w p kd s a l c ad n cp t b m d) (hg : w.grownBy w' (some r)) (hne : p ≠ r) : AB w' p kd s a l c ad n cp t b m d := (hg.block p h.lt (by simpa using hne)).trans h
theorem TB.neq {w : World} {p r : Nat} {ad : Option Addr} {n cp : Nat} {s : Bool} {a : Option Addr} {l c : Nat} {w' : World} (h : TB w p ad n cp s a l c) (hg : w.grownBy w' (some r)) (hne : p ≠ r) : TB w' p ad n cp s a l c := (hg.block p h.lt (by simpa using hne)).trans h
/-- an atom that is laid into a block -/
theorem ab_put {w : World} {p : Nat} {k0 : Int} {s0 : Bool} {a0 : Option Addr} {l0 c0 : Nat} {ad0 : Option Addr} {n0 cp0 : Nat} {t0 : Bool} {b0 : Option Addr} {m0 d0 : Nat} {sd1 : Bool} {ad1 : Option Addr} {ld1 cd1 : Nat} {ap1 : Option Addr} {np1 : Nat} {sk1 : Bool} {ak1 : Option Addr} {lk1 ck1 : Nat} {zd zk : Int} {qs : List (Int × Int)} {B : Nat}
    (x : AB w p k0 s0 a0 l0 c0 ad0 n0 cp0 t0 b0 m0 d0) (hz : Zn w sd1 ad1 ld1 cd1 zd) (hP : Pn w ap1 np1 qs B) (hk : Zn w sk1 ak1 lk1 ck1 zk) (hb : ∀ b off, ap1 = some ⟨b, off, none⟩ → b ≠ p) (fk : Int) (cp1 : Nat) :
    w.grownBy ((((((w.setCell ⟨p, 0, none⟩ (.int .i64 fk)).setCell ⟨p, 1, none⟩ (.bool sd1)).setCell ⟨p, 2, none⟩ (.slice ad1 ld1 cd1)).setCell ⟨p, 3, none⟩ (.slice ap1 np1 cp1)).setCell ⟨p, 4, none⟩ (.bool sk1)).setCell ⟨p, 5, none⟩ (.slice ak1 lk1 ck1)) (some p) ∧ AB ((((((w.setCell ⟨p, 0, none⟩ (.int .i64 fk)).setCell ⟨p, 1, none⟩ (.bool sd1)).setCell ⟨p, 2, none⟩ (.slice ad1 ld1 cd1)).setCell ⟨p, 3, none⟩ (.slice ap1 np1 cp1)).setCell ⟨p, 4, none⟩ (.bool sk1)).setCell ⟨p, 5, none⟩ (.slice ak1 lk1 ck1)) p fk sd1 ad1 ld1 cd1 ap1 np1 cp1 sk1 ak1 lk1 ck1 ∧ Zn ((((((w.setCell ⟨p, 0, none⟩ (.int .i64 fk)).setCell ⟨p, 1, none⟩ (.bool sd1)).setCell ⟨p, 2, none⟩ (.slice ad1 ld1 cd1)).setCell ⟨p, 3, none⟩ (.slice ap1 np1 cp1)).setCell ⟨p, 4, none⟩ (.bool sk1)).setCell ⟨p, 5, none⟩ (.slice ak1 lk1 ck1)) sd1 ad1 ld1 cd1 zd ∧ Pn ((((((w.setCell ⟨p, 0, none⟩ (.int .i64 fk)).setCell ⟨p, 1, none⟩ (.bool sd1)).setCell ⟨p, 2, none⟩ (.slice ad1 ld1 cd1)).setCell ⟨p, 3, none⟩ (.slice ap1 np1 cp1)).setCell ⟨p, 4, none⟩ (.bool sk1)).setCell ⟨p, 5, none⟩ (.slice ak1 lk1 ck1)) ap1 np1 qs B ∧ Zn ((((((w.setCell ⟨p, 0, none⟩ (.int .i64 fk)).setCell ⟨p, 1, none⟩ (.bool sd1)).setCell ⟨p, 2, none⟩ (.slice ad1 ld1 cd1)).setCell ⟨p, 3, none⟩ (.slice ap1 np1 cp1)).setCell ⟨p, 4, none⟩ (.bool sk1)).setCell ⟨p, 5, none⟩ (.slice ak1 lk1 ck1)) sk1 ak1 lk1 ck1 zk := by
  have g6 := ab_set w p (.int .i64 fk) (.bool sd1) (.slice ad1 ld1 cd1) (.slice ap1 np1 cp1) (.bool sk1) (.slice ak1 lk1 ck1)
  have hU := ab_noU x
  exact ⟨g6, ab_fin x fk sd1 ad1 ld1 cd1 ap1 np1 cp1 sk1 ak1 lk1 ck1, hz.grownU g6 hU, hP.away hb g6 hU, hk.grownU g6 hU⟩
/-- its kind alone -/
theorem ab_kind {w : World} {p : Nat} {k0 : Int} {sd1 : Bool} {ad1 : Option Addr} {ld1 cd1 : Nat} {ap1 : Option Addr} {np1 cp1 : Nat} {sk1 : Bool} {ak1 : Option Addr} {lk1 ck1 : Nat} {zd zk : Int} {qs : List (Int × Int)} {B : Nat}
    (x : AB w p k0 sd1 ad1 ld1 cd1 ap1 np1 cp1 sk1 ak1 lk1 ck1) (hz : Zn w sd1 ad1 ld1 cd1 zd) (hP : Pn w ap1 np1 qs B) (hk : Zn w sk1 ak1 lk1 ck1 zk) (hb : ∀ b off, ap1 = some ⟨b, off, none⟩ → b ≠ p) (fk : Int) :
    w.grownBy (w.setCell ⟨p, 0, none⟩ (.int .i64 fk)) (some p) ∧ AB (w.setCell ⟨p, 0, none⟩ (.int .i64 fk)) p fk sd1 ad1 ld1 cd1 ap1 np1 cp1 sk1 ak1 lk1 ck1 ∧ Zn (w.setCell ⟨p, 0, none⟩ (.int .i64 fk)) sd1 ad1 ld1 cd1 zd ∧ Pn (w.setCell ⟨p, 0, none⟩ (.int .i64 fk)) ap1 np1 qs B ∧ Zn (w.setCell ⟨p, 0, none⟩ (.int .i64 fk)) sk1 ak1 lk1 ck1 zk := by
  have g := gb_set w p 0 (.int .i64 fk)
  have hU := ab_noU x
  exact ⟨g, heap_setCell_same _ p 0 _ _ _ x, hz.grownU g hU, hP.away hb g hU, hk.grownU g hU⟩

set_option maxRecDepth 100000 in
set_option maxHeartbeats 6400000 in
theorem anegate_n {w : World} {kd : Int} {sd : Bool} {ad : Option Addr} {ld cd : Nat} {ap : Option Addr} {np cp : Nat} {sk : Bool} {ak : Option Addr} {lk ck : Nat} {d k : Int} {ps : List (Int × Int)} {B : Nat}
    (hd : Zm w sd ad ld cd d) (hld : ld ≤ B) (hP : Pr w ap np ps B) (hk : Zm w sk ak lk ck k) (hlk : lk ≤ B) (hn : np ≤ 262144) (hB : B + 5 * np + 64 ≤ 4194000) :
    Calls Tryz.prog 13 #[.agg #[.int .i64 kd, .bool sd, .slice ad ld cd, .slice ap np cp, .bool sk, .slice ak lk ck]] w fun e w' => ∃ qs, Std qs ∧ (∀ v, csum qs v = csum ps v) ∧ NG w' e (formA kd d qs k) (B + 5 * np + 64) w.heap.size ∧ Below w.heap.size w w' := by
  go_enter Tryz.func13, Tryz.ntmps13
  go_wp2_with fail
  have x := (AB.new w kd sd ad ld cd ap np cp sk ak lk ck).below (below_alloc _ (.cells #[.int .i64 0, .bool false, .slice none 0 0, .slice none 0 0, .bool false, .slice none 0 0] 29))
  have y := AB.new (w.alloc (.cells #[.int .i64 kd, .bool sd, .slice ad ld cd, .slice ap np cp, .bool sk, .slice ak lk ck] 29)) 0 false none 0 0 none 0 0 false none 0 0
  rw [show (w.alloc (.cells #[.int .i64 kd, .bool sd, .slice ad ld cd, .slice ap np cp, .bool sk, .slice ak lk ck] 29)).heap.size = w.heap.size + 1 from by simp] at y
  have b0 : Below w.heap.size w ((w.alloc (.cells #[.int .i64 kd, .bool sd, .slice ad ld cd, .slice ap np cp, .bool sk, .slice ak lk ck] 29)).alloc (.cells #[.int .i64 0, .bool false, .slice none 0 0, .slice none 0 0, .bool false, .slice none 0 0] 29)) := below_alloc' (below_alloc _ _) _
  generalize (w.alloc (.cells #[.int .i64 kd, .bool sd, .slice ad ld cd, .slice ap np cp, .bool sk, .slice ak lk ck] 29)).alloc (.cells #[.int .i64 0, .bool false, .slice none 0 0, .slice none 0 0, .bool false, .slice none 0 0] 29) = wb at *
  replace hd := hd.below b0
  replace hP := hP.below b0
  replace hk := hk.below b0
  have hpr : w.heap.size < w.heap.size + 1 := by omega
  generalize w.heap.size + 1 = r at *
  generalize hp : w.heap.size = p at *
  replace b0 : Hid (Below w.heap.size w wb) := hp ▸ b0
  replace hp := hide hp
  have hnps := hP.1
  refine (anorm_n hd hld hP hk hlk hn (by omega)).mono ?_
  rintro e w1 ⟨qs, hS, hc, hA, k1⟩
  have hrb := y.lt
  replace x := x.below k1
  replace y := y.below k1
  have kk := hide (grow_step k1 b0.out)
  clear hd hP hk k1
  have hpl := x.lt
  have hrl := y.lt
  have hne1 : ¬ r = p := by omega
  have hne2 : ¬ p = r := by omega
  have hwp : w.heap.size ≤ p := by have := hp.out; omega
  have hwr : w.heap.size ≤ r := by omega
  cases hf : formA kd d qs k with
  | inr er =>
    rw [hf] at hA
    have her := formA_er hf
    have he : _ = _ := hA
    subst he
    have g6 := ab_set w1 p (.int .i64 0) (.bool false) (.slice none 0 0) (.slice none 0 0) (.bool false) (.slice none 0 0)
    have y2 := y.neq g6 (by omega)
    have kf := below_grown kk.out g6 hwp
    have hres : Hid (∃ qs, Std qs ∧ (∀ v, csum qs v = csum ps v) ∧ ∀ w', NG w' (.returned (.agg #[.int .i64 0, .bool false, .slice none 0 0, .slice none 0 0, .bool false, .slice none 0 0])) (formA kd d qs k) (B + 5 * np + 64) w.heap.size) := ⟨qs, hS, hc, fun w' => by rw [hf]; rfl⟩
    have HH := hide (And.intro y2 kf)
    have e0 := x.c0
    have e1 := x.c1
    have e2 := x.c2
    have e3 := x.c3
    have e4 := x.c4
    have e5 := x.c5
    have f0 := x.f 0
    have f1 := x.f 1
    have f2 := x.f 2
    have f3 := x.f 3
    have f4 := x.f 4
    have f5 := x.f 5
    have g0 := y.c0
    have g1 := y.c1
    have g2 := y.c2
    have g3 := y.c3
    have g4 := y.c4
    have g5 := y.c5
    have h0 := y.f 0
    have h1 := y.f 1
    have h2 := y.f 2
    have h3 := y.f 3
    have h4 := y.f 4
    have h5 := y.f 5
    clear hf hS hc hA kk g6 y2 kf x y
    rcases her with rfl | rfl
    · go_wp2
      refine bodyPost_ret (results_cell_row rfl _ _ r 29 _ (0, 0) _ rfl (ab_fin HH.out.1 0 false none 0 0 none 0 0 false none 0 0) Tryz.underlying29 rfl (by kernel_rfl)) rfl ?_
      obtain ⟨q, h1, h2, h3⟩ := hres.out
      exact ⟨q, h1, h2, by simpa using h3 _, below_grown HH.out.2 (ab_set _ _ _ _ _ _ _ _) hwr⟩
    · go_wp2
      refine bodyPost_ret (results_cell_row rfl _ _ r 29 _ (0, 0) _ rfl (ab_fin HH.out.1 0 false none 0 0 none 0 0 false none 0 0) Tryz.underlying29 rfl (by kernel_rfl)) rfl ?_
      obtain ⟨q, h1, h2, h3⟩ := hres.out
      exact ⟨q, h1, h2, by simpa using h3 _, below_grown HH.out.2 (ab_set _ _ _ _ _ _ _ _) hwr⟩
  | inl f =>
    rw [hf] at hA
    have hfit := formA_fit hS hf
    have hlen : f.ps.length ≤ np := by have h1 := (formA_prt hS hf).1; have h2 := std_len hS hc; omega
    obtain ⟨fk, fd, fps, fkk⟩ := f
    obtain ⟨sd1, ad1, ld1, cd1, ap1, np1, cp1, sk1, ak1, lk1, ck1, rfl, hz1, hlz1, hPn1, hnp1, hk1, hlk1, hnew1⟩ := hA
    dsimp only at hz1 hPn1 hk1 hlen
    have hnp2 : np1 ≤ np := by have := hPn1.1; omega
    have hres : Hid (∀ e w', AW w' e (negA ⟨fk, fd, fps, fkk⟩) (B + 5 * np + 64) w.heap.size → ∃ qs, Std qs ∧ (∀ v, csum qs v = csum ps v) ∧ NG w' e (formA kd d qs k) (B + 5 * np + 64) w.heap.size) := fun e w' he => ⟨qs, hS, hc, by rw [hf]; exact he⟩
    have hbp : ∀ b off, ap1 = some ⟨b, off, none⟩ → b ≠ p := fun b off e => by have h1 := hnew1 b off e; omega
    have hbr : ∀ b off, ap1 = some ⟨b, off, none⟩ → b ≠ r := fun b off e => by have h1 := hnew1 b off e; omega
    have hbw : ∀ b off, ap1 = some ⟨b, off, none⟩ → w.heap.size ≤ b := fun b off e => by have h1 := hnew1 b off e; omega
    obtain ⟨g6, x2, hz2, hP2, hk2⟩ := ab_put x hz1 hPn1 hk1 hbp fk cp1
    have y2 := y.neq g6 (by omega)
    have kf := below_grown kk.out g6 hwp
    rcases hfit.kind5 with hk5 | hk5 | hk5 | hk5 | hk5
    · dsimp only at hk5
      subst hk5
      have hneg : Hid (negA ⟨0, fd, fps, fkk⟩ = ⟨1, fd, fps, fkk⟩) := (show _ = _ by simp [negA])
      obtain ⟨gg1, x3, hz3, hP3, hk3⟩ := ab_kind x2 hz2 hP2 hk2 hbp 1
      have y3 := y2.neq gg1 hne1
      have kf3 := below_grown kf gg1 hwp
      obtain ⟨g7, y4, hz4, hP4, hk4⟩ := ab_put y3 hz3 hP3 hk3 hbr 1 cp1
      have kf4 := below_grown kf3 g7 hwr
      have HH := hide (And.intro y4 (And.intro hz4 (And.intro hP4 (And.intro hk4 (And.intro hbw kf4)))))
      have e0 := x.c0
      have e1 := x.c1
      have e2 := x.c2
      have e3 := x.c3
      have e4 := x.c4
      have e5 := x.c5
      have f0 := x.f 0
      have f1 := x.f 1
      have f2 := x.f 2
      have f3 := x.f 3
      have f4 := x.f 4
      have f5 := x.f 5
      have g0 := y.c0
      have g1 := y.c1
      have g2 := y.c2
      have g3 := y.c3
      have g4 := y.c4
      have g5 := y.c5
      have h0 := y.f 0
      have h1 := y.f 1
      have h2 := y.f 2
      have h3 := y.f 3
      have h4 := y.f 4
      have h5 := y.f 5
      clear hf hS hc kk g6 y2 kf x y x2 hz2 hP2 hk2 gg1 x3 hz3 hP3 hk3 y3 kf3 g7 y4 hz4 hP4 hk4 kf4 hz1 hPn1 hk1 hnew1 hbp hbr hbw hfit
      go_wp2
      obtain ⟨y4, hz4, hP4, hk4, hbw, kf4⟩ := HH.out
      refine bodyPost_ret (results_cell_row rfl _ _ r 29 _ (0, 0) _ rfl y4 Tryz.underlying29 rfl (by kernel_rfl)) rfl ?_
      obtain ⟨q, h1, h2, h3⟩ := hres.out (.returned (.agg #[.int .i64 1, .bool sd1, .slice ad1 ld1 cd1, .slice ap1 np1 cp1, .bool sk1, .slice ak1 lk1 ck1])) _ (by rw [hneg.out]; exact ⟨sd1, ad1, ld1, cd1, ap1, np1, cp1, sk1, ak1, lk1, ck1, rfl, hz4, by omega, hP4.mono (by omega), by omega, hk4, by omega, hbw⟩)
      exact ⟨q, h1, h2, by first | exact h3 | simpa using h3, kf4⟩
    · dsimp only at hk5
      subst hk5
      have hneg : Hid (negA ⟨1, fd, fps, fkk⟩ = ⟨0, fd, fps, fkk⟩) := (show _ = _ by simp [negA])
      obtain ⟨gg1, x3, hz3, hP3, hk3⟩ := ab_kind x2 hz2 hP2 hk2 hbp 0
      have y3 := y2.neq gg1 hne1
      have kf3 := below_grown kf gg1 hwp
      obtain ⟨g7, y4, hz4, hP4, hk4⟩ := ab_put y3 hz3 hP3 hk3 hbr 0 cp1
      have kf4 := below_grown kf3 g7 hwr
      have HH := hide (And.intro y4 (And.intro hz4 (And.intro hP4 (And.intro hk4 (And.intro hbw kf4)))))
      have e0 := x.c0
      have e1 := x.c1
      have e2 := x.c2
      have e3 := x.c3
      have e4 := x.c4
      have e5 := x.c5
      have f0 := x.f 0
      have f1 := x.f 1
      have f2 := x.f 2
      have f3 := x.f 3
      have f4 := x.f 4
      have f5 := x.f 5
      have g0 := y.c0
      have g1 := y.c1
      have g2 := y.c2
      have g3 := y.c3
      have g4 := y.c4
      have g5 := y.c5
      have h0 := y.f 0
      have h1 := y.f 1
      have h2 := y.f 2
      have h3 := y.f 3
      have h4 := y.f 4
      have h5 := y.f 5
      clear hf hS hc kk g6 y2 kf x y x2 hz2 hP2 hk2 gg1 x3 hz3 hP3 hk3 y3 kf3 g7 y4 hz4 hP4 hk4 kf4 hz1 hPn1 hk1 hnew1 hbp hbr hbw hfit
      go_wp2
      obtain ⟨y4, hz4, hP4, hk4, hbw, kf4⟩ := HH.out
      refine bodyPost_ret (results_cell_row rfl _ _ r 29 _ (0, 0) _ rfl y4 Tryz.underlying29 rfl (by kernel_rfl)) rfl ?_
      obtain ⟨q, h1, h2, h3⟩ := hres.out (.returned (.agg #[.int .i64 0, .bool sd1, .slice ad1 ld1 cd1, .slice ap1 np1 cp1, .bool sk1, .slice ak1 lk1 ck1])) _ (by rw [hneg.out]; exact ⟨sd1, ad1, ld1, cd1, ap1, np1, cp1, sk1, ak1, lk1, ck1, rfl, hz4, by omega, hP4.mono (by omega), by omega, hk4, by omega, hbw⟩)
      exact ⟨q, h1, h2, by first | exact h3 | simpa using h3, kf4⟩
    · dsimp only at hk5
      subst hk5
      have hneg : Hid (lessF (scl (-1) fps) (1 - fkk) = negA ⟨2, fd, fps, fkk⟩) := lessF_neg hfit rfl
      have hstd := hide (std_neg hfit.std)
      have HH := hide (And.intro x2 (And.intro y2 (And.intro hP2 (And.intro hk2 kf))))
      have e0 := x.c0
      have e1 := x.c1
      have e2 := x.c2
      have e3 := x.c3
      have e4 := x.c4
      have e5 := x.c5
      have f0 := x.f 0
      have f1 := x.f 1
      have f2 := x.f 2
      have f3 := x.f 3
      have f4 := x.f 4
      have f5 := x.f 5
      have g0 := y.c0
      have g1 := y.c1
      have g2 := y.c2
      have g3 := y.c3
      have g4 := y.c4
      have g5 := y.c5
      have h0 := y.f 0
      have h1 := y.f 1
      have h2 := y.f 2
      have h3 := y.f 3
      have h4 := y.f 4
      have h5 := y.f 5
      clear hf hS hc kk g6 y2 kf x y x2 hz2 hP2 hk2 hz1 hPn1 hk1 hnew1 hbp hbr hbw hfit
      go_wp2_with fail
      obtain ⟨x2, y2, hP2, hk2, kf⟩ := HH.out
      clear HH e0 e1 e2 e3 e4 e5 f0 f1 f2 f3 f4 f5 g0 g1 g2 g3 g4 g5 h0 h1 h2 h3 h4 h5
      generalize ((((((w1.setCell ⟨p, 0, none⟩ (.int .i64 2)).setCell ⟨p, 1, none⟩ (.bool sd1)).setCell ⟨p, 2, none⟩ (.slice ad1 ld1 cd1)).setCell ⟨p, 3, none⟩ (.slice ap1 np1 cp1)).setCell ⟨p, 4, none⟩ (.bool sk1)).setCell ⟨p, 5, none⟩ (.slice ak1 lk1 ck1)) = w2 at *
      have hrb2 := Nat.le_of_lt y2.lt
      have hP2' := hP2.pr
      have hk2' := hk2.zm
      go_region_held3 (fun w' => w'.cell? ⟨p, 3, none⟩ = some (.slice ap1 np1 cp1) ∧ w'.cell? ⟨p, 4, none⟩ = some (.bool sk1) ∧ w'.cell? ⟨p, 5, none⟩ = some (.slice ak1 lk1 ck1) ∧ Below r w2 w')
        ((refine aq3r x2 hpr ?_; first | (refine Below.mono ?_ hrb2; focus ((repeat' (first | with_reducible exact Below.refl _ _ | with_reducible assumption | with_reducible refine grow_step (by with_reducible assumption) ?_ | with_reducible refine grow_drew ?_ | with_reducible refine grow_alloc ?_ _ | with_reducible refine grow_drewN ?_ _)); done)) | (refine ((((((Below.mono ?_ hrb2).setCell (Nat.le_refl _) _).setCell (Nat.le_refl _) _).setCell (Nat.le_refl _) _).setCell (Nat.le_refl _) _).setCell (Nat.le_refl _) _).setCell (Nat.le_refl _) _; focus ((repeat' (first | with_reducible exact Below.refl _ _ | with_reducible assumption | with_reducible refine grow_step (by with_reducible assumption) ?_ | with_reducible refine grow_drew ?_ | with_reducible refine grow_alloc ?_ _ | with_reducible refine grow_drewN ?_ _)); done))))
        (first | (go_at_call 20; refine (zof_n 1 (by decide) (by decide) _).mono ?_; rintro e wA ⟨sA, aA, lA, cA, rfl, hzA, kA, hlA⟩) | (go_at_call 28; refine (tconst_n (B := B + np + 16) (Zn.zm (Zn.below hzA (by (repeat' (first | with_reducible exact Below.refl _ _ | with_reducible assumption | with_reducible refine grow_step (by with_reducible assumption) ?_ | with_reducible refine grow_drew ?_ | with_reducible refine grow_alloc ?_ _ | with_reducible refine grow_drewN ?_ _))))) (by omega) (by omega)).mono ?_; rintro e wC ⟨sC, aC, lC, cC, rfl, hTC⟩; have kC := hTC.below; have tC := hTC.tw) | (go_at_call 38; refine (tsub_n (B := B + np + 16) (Pr.below tC.1 (by (repeat' (first | with_reducible exact Below.refl _ _ | with_reducible assumption | with_reducible refine grow_step (by with_reducible assumption) ?_ | with_reducible refine grow_drew ?_ | with_reducible refine grow_alloc ?_ _ | with_reducible refine grow_drewN ?_ _)))) (Zm.below tC.2.1 (by (repeat' (first | with_reducible exact Below.refl _ _ | with_reducible assumption | with_reducible refine grow_step (by with_reducible assumption) ?_ | with_reducible refine grow_drew ?_ | with_reducible refine grow_alloc ?_ _ | with_reducible refine grow_drewN ?_ _)))) tC.2.2 (Pr.below hP2' (by (repeat' (first | with_reducible exact Below.refl _ _ | with_reducible assumption | with_reducible refine grow_step (by with_reducible assumption) ?_ | with_reducible refine grow_drew ?_ | with_reducible refine grow_alloc ?_ _ | with_reducible refine grow_drewN ?_ _)))) (Zm.below hk2' (by (repeat' (first | with_reducible exact Below.refl _ _ | with_reducible assumption | with_reducible refine grow_step (by with_reducible assumption) ?_ | with_reducible refine grow_drew ?_ | with_reducible refine grow_alloc ?_ _ | with_reducible refine grow_drewN ?_ _)))) hlk1 (by omega)).mono ?_; rintro e wS ⟨ad3, n3, cp3, s3, a3, l3, c3, us, rfl, hTS, hnS, hStdS, hcsS⟩; have kS := hTS.below; have tS := hTS.tw) | (go_at_call 26; refine (less_n (B := B + np + 16 + np1 + 3 + (0 + np1) + 2) (Pr.below tS.1 (by (repeat' (first | with_reducible exact Below.refl _ _ | with_reducible assumption | with_reducible refine grow_step (by with_reducible assumption) ?_ | with_reducible refine grow_drew ?_ | with_reducible refine grow_alloc ?_ _ | with_reducible refine grow_drewN ?_ _)))) (Zm.below tS.2.1 (by (repeat' (first | with_reducible exact Below.refl _ _ | with_reducible assumption | with_reducible refine grow_step (by with_reducible assumption) ?_ | with_reducible refine grow_drew ?_ | with_reducible refine grow_alloc ?_ _ | with_reducible refine grow_drewN ?_ _)))) tS.2.2 (by omega) (by omega)).mono ?_; rintro e wL ⟨qsL, hSL, hcL, hAL, kL⟩; obtain ⟨sdL, adL, ldL, cdL, apL, npL, cpL, skL, akL, lkL, ckL, rfl, hzL, hlzL, hPnL, hnpL, hkL, hlkL, hnewL⟩ := hAL; have kW := mid kL (show Below w2.heap.size w2 _ by (repeat' (first | with_reducible exact Below.refl _ _ | with_reducible assumption | with_reducible refine grow_step (by with_reducible assumption) ?_ | with_reducible refine grow_drew ?_ | with_reducible refine grow_alloc ?_ _ | with_reducible refine grow_drewN ?_ _))); have y1' := AB.below y2 kW; have y' := y1'.below kL; have i0 := y'.c0; have i1 := y'.c1; have i2 := y'.c2; have i3 := y'.c3; have i4 := y'.c4; have i5 := y'.c5; have j0 := y'.f 0; have j1 := y'.f 1; have j2 := y'.f 2; have j3 := y'.f 3; have j4 := y'.f 4; have j5 := y'.f 5))
      all_goals
        have hqs : qsL = scl (-1) fps := std_unique hSL hstd.out (fun v => by rw [hcL, hcsS, csum_append]; simp [csum])
        generalize hF : lessF qsL (1 - fkk) = F at *
        have hFn : Hid (F = negA ⟨2, fd, fps, fkk⟩) := (show _ = _ by rw [← hF, hqs]; exact hneg.out)
        have hs9 := kW.size
        have hs8 := y2.lt
        obtain ⟨g7, y4, hz4, hP4, hk4⟩ := ab_put y' hzL hPnL hkL (fun b off e => by have h9 := hnewL b off e; omega) F.kind cpL
        have kf4 := below_grown (grow_step (grow_step kL kW) kf) g7 hwr
        have hbw : ∀ b off, apL = some ⟨b, off, none⟩ → w.heap.size ≤ b := fun b off e => by have h9 := hnewL b off e; omega
        have HH := hide (And.intro y4 (And.intro hz4 (And.intro hP4 (And.intro hk4 (And.intro hbw kf4)))))
        clear hF hqs hneg hstd g7 y4 hz4 hP4 hk4 kf4 hbw hzL hPnL hkL hnewL hSL hcL hStdS hcsS hTS hTC tS tC kS kC kL kW kf x2 y2 y1' y' hP2 hk2 hP2' hk2' hzA kA
        go_wp2
        obtain ⟨y4, hz4, hP4, hk4, hbw, kf4⟩ := HH.out
        refine bodyPost_ret (results_cell_row rfl _ _ r 29 _ (0, 0) _ rfl y4 Tryz.underlying29 rfl (by kernel_rfl)) rfl ?_
        obtain ⟨q, h1, h2, h3⟩ := hres.out (.returned (.agg #[.int .i64 F.kind, .bool sdL, .slice adL ldL cdL, .slice apL npL cpL, .bool skL, .slice akL lkL ckL])) _ (by rw [← hFn.out]; exact ⟨sdL, adL, ldL, cdL, apL, npL, cpL, skL, akL, lkL, ckL, rfl, hz4, by omega, hP4.mono (by omega), by omega, hk4, by omega, hbw⟩)
        exact ⟨q, h1, h2, by first | exact h3 | simpa using h3, kf4⟩
    · dsimp only at hk5
      subst hk5
      have hneg : Hid (negA ⟨3, fd, fps, fkk⟩ = ⟨4, fd, fps, fkk⟩) := (show _ = _ by simp [negA])
      obtain ⟨gg1, x3, hz3, hP3, hk3⟩ := ab_kind x2 hz2 hP2 hk2 hbp 4
      have y3 := y2.neq gg1 hne1
      have kf3 := below_grown kf gg1 hwp
      obtain ⟨g7, y4, hz4, hP4, hk4⟩ := ab_put y3 hz3 hP3 hk3 hbr 4 cp1
      have kf4 := below_grown kf3 g7 hwr
      have HH := hide (And.intro y4 (And.intro hz4 (And.intro hP4 (And.intro hk4 (And.intro hbw kf4)))))
      have e0 := x.c0
      have e1 := x.c1
      have e2 := x.c2
      have e3 := x.c3
      have e4 := x.c4
      have e5 := x.c5
      have f0 := x.f 0
      have f1 := x.f 1
      have f2 := x.f 2
      have f3 := x.f 3
      have f4 := x.f 4
      have f5 := x.f 5
      have g0 := y.c0
      have g1 := y.c1
      have g2 := y.c2
      have g3 := y.c3
      have g4 := y.c4
      have g5 := y.c5
      have h0 := y.f 0
      have h1 := y.f 1
      have h2 := y.f 2
      have h3 := y.f 3
      have h4 := y.f 4
      have h5 := y.f 5
      clear hf hS hc kk g6 y2 kf x y x2 hz2 hP2 hk2 gg1 x3 hz3 hP3 hk3 y3 kf3 g7 y4 hz4 hP4 hk4 kf4 hz1 hPn1 hk1 hnew1 hbp hbr hbw hfit
      go_wp2
      obtain ⟨y4, hz4, hP4, hk4, hbw, kf4⟩ := HH.out
      refine bodyPost_ret (results_cell_row rfl _ _ r 29 _ (0, 0) _ rfl y4 Tryz.underlying29 rfl (by kernel_rfl)) rfl ?_
      obtain ⟨q, h1, h2, h3⟩ := hres.out (.returned (.agg #[.int .i64 4, .bool sd1, .slice ad1 ld1 cd1, .slice ap1 np1 cp1, .bool sk1, .slice ak1 lk1 ck1])) _ (by rw [hneg.out]; exact ⟨sd1, ad1, ld1, cd1, ap1, np1, cp1, sk1, ak1, lk1, ck1, rfl, hz4, by omega, hP4.mono (by omega), by omega, hk4, by omega, hbw⟩)
      exact ⟨q, h1, h2, by first | exact h3 | simpa using h3, kf4⟩
    · dsimp only at hk5
      subst hk5
      have hneg : Hid (negA ⟨4, fd, fps, fkk⟩ = ⟨3, fd, fps, fkk⟩) := (show _ = _ by simp [negA])
      obtain ⟨gg1, x3, hz3, hP3, hk3⟩ := ab_kind x2 hz2 hP2 hk2 hbp 3
      have y3 := y2.neq gg1 hne1
      have kf3 := below_grown kf gg1 hwp
      obtain ⟨g7, y4, hz4, hP4, hk4⟩ := ab_put y3 hz3 hP3 hk3 hbr 3 cp1
      have kf4 := below_grown kf3 g7 hwr
      have HH := hide (And.intro y4 (And.intro hz4 (And.intro hP4 (And.intro hk4 (And.intro hbw kf4)))))
      have e0 := x.c0
      have e1 := x.c1
      have e2 := x.c2
      have e3 := x.c3
      have e4 := x.c4
      have e5 := x.c5
      have f0 := x.f 0
      have f1 := x.f 1
      have f2 := x.f 2
      have f3 := x.f 3
      have f4 := x.f 4
      have f5 := x.f 5
      have g0 := y.c0
      have g1 := y.c1
      have g2 := y.c2
      have g3 := y.c3
      have g4 := y.c4
      have g5 := y.c5
      have h0 := y.f 0
      have h1 := y.f 1
      have h2 := y.f 2
      have h3 := y.f 3
      have h4 := y.f 4
      have h5 := y.f 5
      clear hf hS hc kk g6 y2 kf x y x2 hz2 hP2 hk2 gg1 x3 hz3 hP3 hk3 y3 kf3 g7 y4 hz4 hP4 hk4 kf4 hz1 hPn1 hk1 hnew1 hbp hbr hbw hfit
      go_wp2
      obtain ⟨y4, hz4, hP4, hk4, hbw, kf4⟩ := HH.out
      refine bodyPost_ret (results_cell_row rfl _ _ r 29 _ (0, 0) _ rfl y4 Tryz.underlying29 rfl (by kernel_rfl)) rfl ?_
      obtain ⟨q, h1, h2, h3⟩ := hres.out (.returned (.agg #[.int .i64 3, .bool sd1, .slice ad1 ld1 cd1, .slice ap1 np1 cp1, .bool sk1, .slice ak1 lk1 ck1])) _ (by rw [hneg.out]; exact ⟨sd1, ad1, ld1, cd1, ap1, np1, cp1, sk1, ak1, lk1, ck1, rfl, hz4, by omega, hP4.mono (by omega), by omega, hk4, by omega, hbw⟩)
      exact ⟨q, h1, h2, by first | exact h3 | simpa using h3, kf4⟩

end Go.Proofs.YtofhodimmeiahaaGreatDoor

namespace Go.Proofs.YtofhodimmeiahaaGreatDoor
open Go.RowKit Go.Sort Go.Shelf
open Tm At

set_option maxRecDepth 100000 in
set_option maxHeartbeats 6400000 in
theorem atomOpposite_walk {w : World} {kd : Int} {sd : Bool} {ad : Option Addr} {ld cd : Nat} {ap : Option Addr} {np cp : Nat} {sk : Bool} {ak : Option Addr} {lk ck : Nat} {d k : Int} {ps : List (Int × Int)} {B : Nat} {ad2 : Option Addr} {n2 cp2 : Nat} {vs : List (Int × Int)}
    (hd : Zm w sd ad ld cd d) (hld : ld ≤ B) (hP : Pr w ap np ps B) (hk : Zm w sk ak lk ck k) (hlk : lk ≤ B) (hn : np ≤ 209716) (hV : Pr w ad2 n2 vs B) (hn2 : n2 ≤ B) (hB : B ≤ 1048576) (htab : Tab w) :
    Calls Tryz.prog 4 #[.agg #[.int .i64 kd, .bool sd, .slice ad ld cd, .slice ap np cp, .bool sk, .slice ak lk ck], .slice ad2 n2 cp2] w fun x w' => x = .returned (.bool true) ∧ Below w.heap.size w w' := by
  go_enter Tryz.func4, Tryz.ntmps4
  go_wp2_with fail
  have x := AB.new w kd sd ad ld cd ap np cp sk ak lk ck
  have b0 := below_alloc w (.cells #[.int .i64 kd, .bool sd, .slice ad ld cd, .slice ap np cp, .bool sk, .slice ak lk ck] 29)
  replace hd := hd.below b0
  replace hP := hP.below b0
  replace hk := hk.below b0
  replace hV := hV.below b0
  replace htab := htab.below b0
  generalize w.alloc (.cells #[.int .i64 kd, .bool sd, .slice ad ld cd, .slice ap np cp, .bool sk, .slice ak lk ck] 29) = wb at *
  generalize hp : w.heap.size = p at *
  replace b0 : Hid (Below w.heap.size w wb) := hp ▸ b0
  clear hp
  have hnps := hP.1
  refine (awake6_n wb htab).mono ?_
  rintro e w1 ⟨rfl, k1⟩
  replace x := x.below k1
  replace hd := hd.below k1
  replace hP := hP.below k1
  replace hk := hk.below k1
  replace hV := hV.below k1
  replace k1 := hide (grow_step k1 b0.out)
  clear b0 htab
  have u0 := x.c0
  have u1 := x.c1
  have u2 := x.c2
  have u3 := x.c3
  have u4 := x.c4
  have u5 := x.c5
  go_wp2_with fail
  refine (anorm_n hd hld hP hk hlk (by omega) (by omega)).mono ?_
  rintro e w3 ⟨qs, hS, hc, hA, k3⟩
  replace hV := hV.below k3
  replace x := x.below k3
  replace hd := hd.below k3
  replace hP := hP.below k3
  replace hk := hk.below k3
  replace k3 := hide (grow_step k3 k1.out)
  clear u0 u1 u2 u3 u4 u5 k1
  cases hf : formA kd d qs k with
  | inr er =>
    rw [hf] at hA
    have her := formA_er hf
    have he : _ = _ := hA
    subst he
    have kf := hide (grow_step (below_alloc w3 (.cells #[.int .i64 0, .bool false, .slice none 0 0, .slice none 0 0, .bool false, .slice none 0 0] 29)) k3.out)
    clear hf hS hA k3 hc hV x hd hP hk
    rcases her with rfl | rfl
    · go_wp2
      go_ret
      exact ⟨rfl, kf.out⟩
    · go_wp2
      go_ret
      exact ⟨rfl, kf.out⟩
  | inl f =>
    rw [hf] at hA
    have hfit := formA_fit hS hf
    have hprt := formA_prt hS hf
    have hlen : f.ps.length ≤ np := by have h1 := hprt.1; have h2 := std_len hS hc; omega
    have hag : formA f.kind f.d f.ps f.k = .inl f := hfit.again
    have hag2 : formA (negA f).kind (negA f).d (negA f).ps (negA f).k = .inl (negA f) := hfit.neg.again
    have hnn := negA_neg hfit
    have hns := negA_sat hfit (val1 vs)
    have hnt := tot_neg (a := f) (vs := vs)
    have hnl := negA_len f
    have hnf := hfit.neg
    generalize hF : negA f = F at *
    obtain ⟨ok, od, ops, okk⟩ := F
    obtain ⟨fk, fd, fps, fkk⟩ := f
    obtain ⟨sd1, ad1, ld1, cd1, ap1, np1, cp1, sk1, ak1, lk1, ck1, rfl, hz1, hlz1, hPn1, hnp1, hk1, hlk1, -⟩ := hA
    dsimp only at hz1 hPn1 hk1 hlen hag hag2 hnt hnl
    have hnp2 : np1 ≤ np := by have := hPn1.1; omega
    have y := AB.new w3 fk sd1 ad1 ld1 cd1 ap1 np1 cp1 sk1 ak1 lk1 ck1
    have ka := below_alloc w3 (.cells #[.int .i64 fk, .bool sd1, .slice ad1 ld1 cd1, .slice ap1 np1 cp1, .bool sk1, .slice ak1 lk1 ck1] 29)
    replace hz1 := hz1.below ka
    replace hPn1 := hPn1.below ka
    replace hk1 := hk1.below ka
    replace hV := hV.below ka
    have hxl := x.lt
    have u0 := x.c0
    have u1 := x.c1
    have u2 := x.c2
    have u3 := x.c3
    have u4 := x.c4
    have u5 := x.c5
    replace x := x.below ka
    replace hd := hd.below ka
    replace hP := hP.below ka
    replace hk := hk.below ka
    replace k3 := hide (grow_step ka k3.out)
    replace hfit := hide hfit
    replace hnf := hide hnf
    replace hag := hide hag
    replace hag2 := hide hag2
    replace hns := hide hns
    replace hnn := hide hnn
    replace hnt := hide hnt
    replace hF := hide hF
    replace hf := hide hf
    replace hS := hide hS
    replace hc := hide hc
    have HH := hide (And.intro y (And.intro hz1 (And.intro hPn1 (And.intro hk1 (And.intro hV (And.intro hd (And.intro hP hk)))))))
    clear ka hprt y hz1 hPn1 hk1 hV hd hP hk x
    go_wp2_with fail
    obtain ⟨y, hz1, hPn1, hk1, hV, hd, hP, hk⟩ := HH.out
    clear HH u0 u1 u2 u3 u4 u5
    generalize w3.alloc (.cells #[.int .i64 fk, .bool sd1, .slice ad1 ld1 cd1, .slice ap1 np1 cp1, .bool sk1, .slice ak1 lk1 ck1] 29) = wn at *
    generalize w3.heap.size = bn at *
    refine (anegate_n hd hld hP hk hlk (by omega) (by omega)).mono ?_
    rintro e w4 ⟨q4, hS4, hc4, hN, k4⟩
    obtain rfl : q4 = qs := std_unique hS4 hS.out fun v => (hc4 v).trans (hc.out v).symm
    rw [hf.out] at hN
    dsimp only [NG] at hN
    rw [hF.out] at hN
    obtain ⟨sd4, ad4, ld4, cd4, ap4, np4, cp4, sk4, ak4, lk4, ck4, rfl, hz4, hlz4, hPn4, hnp4, hk4, hlk4, -⟩ := hN
    dsimp only at hz4 hPn4 hk4
    have hnp5 : np4 ≤ np := by have h1 := hPn4.1; have h2 := hPn1.1; omega
    have y4 := AB.new w4 ok sd4 ad4 ld4 cd4 ap4 np4 cp4 sk4 ak4 lk4 ck4
    have ka := below_alloc w4 (.cells #[.int .i64 ok, .bool sd4, .slice ad4 ld4 cd4, .slice ap4 np4 cp4, .bool sk4, .slice ak4 lk4 ck4] 29)
    replace y := (y.below k4).below ka
    replace hz1 := (hz1.below k4).below ka
    replace hPn1 := (hPn1.below k4).below ka
    replace hk1 := (hk1.below k4).below ka
    replace hV := (hV.below k4).below ka
    replace hz4 := hz4.below ka
    replace hPn4 := hPn4.below ka
    replace hk4 := hk4.below ka
    replace k3 := hide (grow_step ka (grow_step k4 k3.out))
    clear k4 ka hd hP hk hS4 hc4 hc hS hf
    have HH := hide (And.intro y (And.intro y4 (And.intro hz1 (And.intro hPn1 (And.intro hk1 (And.intro hV (And.intro hz4 (And.intro hPn4 hk4))))))))
    clear y y4 hz1 hPn1 hk1 hV hz4 hPn4 hk4
    go_wp2_with fail
    obtain ⟨y, y4, hz1, hPn1, hk1, hV, hz4, hPn4, hk4⟩ := HH.out
    clear HH
    generalize w4.alloc (.cells #[.int .i64 ok, .bool sd4, .slice ad4 ld4 cd4, .slice ap4 np4 cp4, .bool sk4, .slice ak4 lk4 ck4] 29) = wo4 at *
    generalize w4.heap.size = bo at *
    refine (anegate_n hz4.zm hlz4 hPn4.pr hk4.zm hlk4 (by omega) (by omega)).mono ?_
    rintro e w5 ⟨q5, hS5, hc5, hN, k5⟩
    obtain rfl : q5 = ops := std_unique hS5 hnf.out.std hc5
    rw [hag2.out] at hN
    dsimp only [NG] at hN
    rw [hnn.out] at hN
    obtain ⟨sd5, ad5, ld5, cd5, ap5, np5, cp5, sk5, ak5, lk5, ck5, rfl, hz5, hlz5, hPn5, hnp6, hk5, hlk5, -⟩ := hN
    dsimp only at hz5 hPn5 hk5
    obtain rfl : np5 = np1 := hPn5.1.symm.trans hPn1.1
    have y5 := AB.new w5 fk sd5 ad5 ld5 cd5 ap5 np5 cp5 sk5 ak5 lk5 ck5
    have ka := below_alloc w5 (.cells #[.int .i64 fk, .bool sd5, .slice ad5 ld5 cd5, .slice ap5 np5 cp5, .bool sk5, .slice ak5 lk5 ck5] 29)
    have y' := y.below k5
    have u0 := y'.c0
    have u1 := y'.c1
    have u2 := y'.c2
    have u3 := y'.c3
    have u4 := y'.c4
    have u5 := y'.c5
    have hyl := y'.lt
    replace y := y'.below ka
    replace y4 := (y4.below k5).below ka
    replace hz1 := (hz1.below k5).below ka
    replace hPn1 := (hPn1.below k5).below ka
    replace hk1 := (hk1.below k5).below ka
    replace hV := (hV.below k5).below ka
    replace hz4 := (hz4.below k5).below ka
    replace hPn4 := (hPn4.below k5).below ka
    replace hk4 := (hk4.below k5).below ka
    replace hz5 := hz5.below ka
    replace hPn5 := hPn5.below ka
    replace hk5 := hk5.below ka
    replace k3 := hide (grow_step ka (grow_step k5 k3.out))
    have HH := hide (And.intro y (And.intro y4 (And.intro y5 (And.intro hz1 (And.intro hPn1 (And.intro hk1 (And.intro hV (And.intro hz4 (And.intro hPn4 (And.intro hk4 (And.intro hz5 (And.intro hPn5 hk5))))))))))))
    clear k5 ka hS5 hc5 hnn y y4 y5 hz1 hPn1 hk1 hV hz4 hPn4 hk4 hz5 hPn5 hk5 y'
    go_wp2_with fail
    obtain ⟨y, y4, y5, hz1, hPn1, hk1, hV, hz4, hPn4, hk4, hz5, hPn5, hk5⟩ := HH.out
    clear HH u0 u1 u2 u3 u4 u5
    generalize w5.alloc (.cells #[.int .i64 fk, .bool sd5, .slice ad5 ld5 cd5, .slice ap5 np5 cp5, .bool sk5, .slice ak5 lk5 ck5] 29) = wb5 at *
    generalize w5.heap.size = bb at *
    refine (aholds_n hz1.zm hlz1 hPn1.pr hk1.zm hlk1 (by omega) (by omega) hV (by omega) (by omega)).mono ?_
    rintro e w6 ⟨q6, hS6, hc6, hO, k6⟩
    obtain rfl : q6 = fps := std_unique hS6 hfit.out.std hc6
    rw [hag.out] at hO
    replace y := y.below k6
    replace y4 := y4.below k6
    replace y5 := y5.below k6
    replace hz1 := hz1.below k6
    replace hPn1 := hPn1.below k6
    replace hk1 := hk1.below k6
    replace hV := hV.below k6
    replace hz4 := hz4.below k6
    replace hPn4 := hPn4.below k6
    replace hk4 := hk4.below k6
    replace hz5 := hz5.below k6
    replace hPn5 := hPn5.below k6
    replace hk5 := hk5.below k6
    replace k3 := hide (grow_step k6 k3.out)
    have hcase : ∃ b6 e6, e = .returned (.tuple #[.bool b6, .int .i64 e6]) ∧ Hid ((¬ Tot q6 vs ∧ e6 = 170) ∨ (Tot q6 vs ∧ e6 = 0 ∧ (b6 = true ↔ Sat ⟨fk, fd, q6, fkk⟩ (val1 vs)))) := by
      rcases hO with ⟨h1, h2⟩ | ⟨h1, b, h2, h3⟩
      · exact ⟨false, 170, h2, .inl ⟨h1, rfl⟩⟩
      · exact ⟨b, 0, h2, .inr ⟨h1, rfl, h3⟩⟩
    obtain ⟨b6, e6, rfl, hcase⟩ := hcase
    clear hO hS6 hc6 k6
    have u0 := y4.c0
    have u1 := y4.c1
    have u2 := y4.c2
    have u3 := y4.c3
    have u4 := y4.c4
    have u5 := y4.c5
    go_wp2_with fail
    refine (aholds_n hz4.zm hlz4 hPn4.pr hk4.zm hlk4 (by omega) (by omega) hV (by omega) (by omega)).mono ?_
    rintro e w7 ⟨q7, hS7, hc7, hO, k7⟩
    obtain rfl : q7 = q5 := std_unique hS7 hnf.out.std hc7
    rw [hag2.out] at hO
    replace y := y.below k7
    replace y5 := y5.below k7
    replace hz1 := hz1.below k7
    replace hPn1 := hPn1.below k7
    replace hk1 := hk1.below k7
    replace hz5 := hz5.below k7
    replace hPn5 := hPn5.below k7
    replace hk5 := hk5.below k7
    replace k3 := hide (grow_step k7 k3.out)
    have hboth : ∃ b7, e = .returned (.tuple #[.bool b7, .int .i64 e6]) ∧ (e6 = 0 ∨ e6 = 170) ∧ (e6 = 0 → b6 = !b7) := by
      have hnt' := hnt.out
      have hns' := hns.out
      rcases hO with ⟨h1, h2⟩ | ⟨h1, b, h2, h3⟩
      · rcases hcase.out with ⟨h4, rfl⟩ | ⟨h4, -, -⟩
        · exact ⟨false, h2, .inr rfl, fun h => by cases h⟩
        · exact absurd (hnt'.2 h4) h1
      · rcases hcase.out with ⟨h4, -⟩ | ⟨h4, rfl, h5⟩
        · exact absurd (hnt'.1 h1) h4
        · refine ⟨b, h2, .inl rfl, fun _ => ?_⟩
          have h6 := h3.trans hns'
          cases b <;> cases b6 <;> simp_all
    obtain ⟨b7, rfl, he6, hb67⟩ := hboth
    clear hO hS7 hc7 k7 hcase hnt hns hz4 hPn4 hk4 y4 hV u0 u1 u2 u3 u4 u5
    have u0 := y.c0
    have u1 := y.c1
    have u2 := y.c2
    have u3 := y.c3
    have u4 := y.c4
    have u5 := y.c5
    have v0 := y5.c0
    have v1 := y5.c1
    have v2 := y5.c2
    have v3 := y5.c3
    have v4 := y5.c4
    have v5 := y5.c5
    rcases he6 with rfl | rfl
    · obtain rfl := hb67 rfl
      go_wp2_with fail
      refine (same6_t (f := ⟨fk, fd, q6, fkk⟩) (B := B + 5 * np + 64 + 5 * np4 + 64) hfit.out.std hz5 hlz5 hPn5 hk5 hlk5 hz1 (by omega) (hPn1.mono (by omega)) hk1 (by omega) (by omega) (by omega)).mono ?_
      rintro e w8 ⟨rfl, k8⟩
      have kf := hide (grow_step k8 k3.out)
      clear k8 k3
      cases b7
      · go_wp2
        go_ret
        exact ⟨rfl, kf.out⟩
      · go_wp2
        go_ret
        exact ⟨rfl, kf.out⟩
    · go_wp2_with fail
      refine (same6_t (f := ⟨fk, fd, q6, fkk⟩) (B := B + 5 * np + 64 + 5 * np4 + 64) hfit.out.std hz5 hlz5 hPn5 hk5 hlk5 hz1 (by omega) (hPn1.mono (by omega)) hk1 (by omega) (by omega) (by omega)).mono ?_
      rintro e w8 ⟨rfl, k8⟩
      have kf := hide (grow_step k8 k3.out)
      clear k8 k3
      go_wp2
      go_ret
      exact ⟨rfl, kf.out⟩
end Go.Proofs.YtofhodimmeiahaaGreatDoor
