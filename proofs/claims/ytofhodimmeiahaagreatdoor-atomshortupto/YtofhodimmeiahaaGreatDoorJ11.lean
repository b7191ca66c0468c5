/-
  Several texts in one: B8, B9, LAtomShort.
-/
import Derived.Test.YtofhodimmeiahaaGreatDoorJ10
import Derived.Test.YtofhodimmeiahaaGreatDoorZ5
import Derived.Test.YtofhodimmeiahaaGreatDoorJ5
namespace Go.Proofs.YtofhodimmeiahaaGreatDoor
open Go.RowKit Go.Sort Go.Shelf
open Tm At

set_option maxRecDepth 100000 in
set_option maxHeartbeats 6400000 in
theorem adiv_n {w : World} {sd : Bool} {ad : Option Addr} {ld cd : Nat} {ap : Option Addr} {np cp : Nat} {sk : Bool} {ak : Option Addr} {lk ck : Nat} {d k : Int} {ps : List (Int × Int)} {B : Nat}
    (hd : Zm w sd ad ld cd d) (hld : ld ≤ B) (hP : Pr w ap np ps B) (hk : Zm w sk ak lk ck k) (hlk : lk ≤ B) (hn : np ≤ 262144) (hB : B + np + 1 ≤ 4194000) (hd0 : d ≠ 0) :
    Calls Tryz.prog 23 #[.agg #[.bool sd, .slice ad ld cd], .agg #[.slice ap np cp, .bool sk, .slice ak lk ck]] w fun e w' => ∃ qs, Std qs ∧ (∀ v, csum qs v = csum ps v) ∧ AE w' e (divF 3 d qs k) (B + np + 16) w.heap.size ∧ Below w.heap.size w w' := by
  go_enter Tryz.func23, Tryz.ntmps23
  go_wp2_with fail
  have y := AB.new ((w.alloc (.cells #[.bool sd, .slice ad ld cd] 24)).alloc (.cells #[.slice ap np cp, .bool sk, .slice ak lk ck] 27)) 0 false none 0 0 none 0 0 false none 0 0
  rw [show ((w.alloc (.cells #[.bool sd, .slice ad ld cd] 24)).alloc (.cells #[.slice ap np cp, .bool sk, .slice ak lk ck] 27)).heap.size = w.heap.size + 1 + 1 from by simp] at y
  have b0 : Below w.heap.size w (((w.alloc (.cells #[.bool sd, .slice ad ld cd] 24)).alloc (.cells #[.slice ap np cp, .bool sk, .slice ak lk ck] 27)).alloc (.cells #[.int .i64 0, .bool false, .slice none 0 0, .slice none 0 0, .bool false, .slice none 0 0] 29)) := below_alloc' (below_alloc' (below_alloc _ _) _) _
  generalize ((w.alloc (.cells #[.bool sd, .slice ad ld cd] 24)).alloc (.cells #[.slice ap np cp, .bool sk, .slice ak lk ck] 27)).alloc (.cells #[.int .i64 0, .bool false, .slice none 0 0, .slice none 0 0, .bool false, .slice none 0 0] 29) = wb at *
  have hr : w.heap.size ≤ w.heap.size + 1 + 1 := by omega
  generalize w.heap.size + 1 + 1 = r at *
  refine (anorm_n (kd := 3) (hd.below b0) hld (hP.below b0) (hk.below b0) hlk hn hB).mono ?_
  rintro e w1 ⟨qs, hS, hc, hA, k1⟩
  have hfm : formA 3 d qs k = .inl (divF 3 d qs k) := by unfold formA; rw [if_neg (by decide), if_neg (by decide), if_pos (by decide), if_neg hd0]
  rw [hfm] at hA
  clear hfm
  obtain ⟨sd1, ad1, ld1, cd1, ap1, np1, cp1, sk1, ak1, lk1, ck1, rfl, hz1, hlz1, hPn1, hnp1, hk1, hlk1, hnew1⟩ := hA
  generalize hff : divF 3 d qs k = ff at *
  replace hff := hide hff
  have hrl := y.lt
  have hbs := b0.size
  replace y := y.below k1
  have e0 := y.c0
  have e1 := y.c1
  have e2 := y.c2
  have e3 := y.c3
  have e4 := y.c4
  have e5 := y.c5
  have f0 := y.f 0
  have f1 := y.f 1
  have f2 := y.f 2
  have f3 := y.f 3
  have f4 := y.f 4
  have f5 := y.f 5
  have g6 := ab_set w1 r (.int .i64 ff.kind) (.bool sd1) (.slice ad1 ld1 cd1) (.slice ap1 np1 cp1) (.bool sk1) (.slice ak1 lk1 ck1)
  have hPf := hide (hPn1.away (fun b off e => by have := hnew1 b off e; omega) g6 (ab_noU y))
  have hzf := hide (hk1.grownU g6 (ab_noU y))
  have hdf := hide (hz1.grownU g6 (ab_noU y))
  have kf := hide (below_grown (grow_step k1 b0) g6 hr)
  have hnw : Hid (∀ b off, ap1 = some ⟨b, off, none⟩ → w.heap.size ≤ b) := (fun b off e => by have h1 := hnew1 b off e; omega)
  replace hS := hide hS
  replace hc := hide hc
  clear g6 hPn1 hk1 hz1 hnew1 hP hd hk b0 k1
  go_wp2
  refine bodyPost_ret (results_ct rfl _ _ r 29 _ (0, 0) _ rfl (ab_fin y ff.kind sd1 ad1 ld1 cd1 ap1 np1 cp1 sk1 ak1 lk1 ck1) Tryz.underlying29 rfl (by kernel_rfl)) rfl ?_
  refine ⟨qs, hS.out, hc.out, ?_, kf.out⟩
  rw [hff.out]
  exact ⟨sd1, ad1, ld1, cd1, ap1, np1, cp1, sk1, ak1, lk1, ck1, by simp, hdf.out, hlz1, hPf.out, hnp1, hzf.out, hlk1, hnw.out⟩

set_option maxRecDepth 100000 in
set_option maxHeartbeats 1600000 in
theorem itoa_small (i : Nat) (h : i < 100) (w : World) :
    Calls Tryz.prog 87 #[.int .i64 i] w fun e w' => e = .returned (.string ⟨(Lib.decDigits i).toArray⟩) ∧ Below w.heap.size w w' := by
  have hf : Calls Tryz.prog 124 #[.int .i64 i, .int .i64 10] w fun e w' => e = .returned (.string ⟨(Lib.decDigits i).toArray⟩) ∧ Below w.heap.size w w' := by
    go_enter Tryz.func124, Tryz.ntmps124
    go_wp2_with (go_at_call 137; refine (small_lay i h _).mono ?_; rintro e w' ⟨rfl, rfl⟩)
    go_ret
    exact ⟨rfl, Below.refl _ _⟩
  have hi : Calls Tryz.prog 103 #[.int .i64 i] w fun e w' => e = .returned (.string ⟨(Lib.decDigits i).toArray⟩) ∧ Below w.heap.size w w' := by
    go_enter Tryz.func103, Tryz.ntmps103
    go_wp2_with fail
    refine hf.mono ?_
    rintro e w' ⟨rfl, hb⟩
    go_wp2
    go_ret
    exact ⟨rfl, hb⟩
  go_enter Tryz.func87, Tryz.ntmps87
  go_wp2_with fail
  refine hi.mono ?_
  rintro e w' ⟨rfl, hb⟩
  go_wp2
  go_ret
  exact ⟨rfl, hb⟩

set_option maxRecDepth 100000 in
set_option maxHeartbeats 1600000 in
theorem sign6_n {w : World} {s : Bool} {a : Option Addr} {l c : Nat} : Calls Tryz.prog 86 #[.agg #[.bool s, .slice a l c]] w fun e w' => e = .returned (.string ⟨#[if s then 45 else 43]⟩) ∧ Below w.heap.size w w' := by
  have hk := below_alloc w (.cells #[.bool s, .slice a l c] 24)
  cases s with
  | true =>
    go_enter Tryz.func86, Tryz.ntmps86
    go_wp2
    go_ret
    exact ⟨rfl, hk⟩
  | false =>
    go_enter Tryz.func86, Tryz.ntmps86
    go_wp2
    go_ret
    exact ⟨rfl, hk⟩

theorem ztext_one : zText (((1 : Int).natAbs : Nat) : Int) = ⟨#[49]⟩ := by
  unfold zText
  rw [if_neg (by decide)]
  show (⟨(Lib.decDigits 1).toArray⟩ : ByteArray) = _
  rw [Lib.decDigits_one (by decide)]
  rfl
theorem dec_sm6 {v : Nat} (h : v < 100) : (Lib.decDigits v).length ≤ 2 := by
  by_cases h1 : v < 10
  · rw [Lib.decDigits_one h1]; simp
  · rw [Lib.decDigits_two h1 h]; simp

theorem ba_cons (x : UInt8) (D : List UInt8) : (⟨#[x]⟩ ++ ⟨D.toArray⟩ : ByteArray) = ⟨(x :: D).toArray⟩ := by
  apply ByteArray.ext
  simp [ByteArray.data_append]
theorem tqr {w w' : World} {p r : Nat} {ad : Option Addr} {n cp : Nat} {s : Bool} {a : Option Addr} {l c : Nat} (x : TB w p ad n cp s a l c) (hp : p < r) (k : Below r w w') : w'.cell? ⟨p, 1, none⟩ = some (.bool s) ∧ w'.cell? ⟨p, 2, none⟩ = some (.slice a l c) :=
  ⟨(k.cell (p := ⟨p, 1, none⟩) hp).trans x.c1, (k.cell (p := ⟨p, 2, none⟩) hp).trans x.c2⟩
theorem Zn.plus {w : World} {s : Bool} {a : Option Addr} {l c : Nat} {z : Int} (h : Zn w s a l c z) (hz : 0 ≤ z) : s = false := by
  obtain ⟨n, hn, rfl, h0⟩ := h
  cases s with
  | false => rfl
  | true =>
    have h1 := hn.nm.nonneg
    have h2 := h0 rfl
    simp [sg] at hz
    omega

set_option maxRecDepth 100000 in
set_option maxHeartbeats 6400000 in
/-- the text of a term of one part, of the coefficient 1 -/
theorem termText_one {w : World} {ap : Option Addr} {cp : Nat} {sk : Bool} {ak : Option Addr} {lk ck : Nat} {k : Int} {v B : Nat} (hP : Pn w ap 1 [((v : Int), 1)] B) (hk : Zn w sk ak lk ck k) (hlk : lk ≤ B) (hB : B ≤ 1048576) (hv : v < 100) (hk0 : 0 ≤ k) (htab : Tab w) :
    Calls Tryz.prog 62 #[.agg #[.slice ap 1 cp, .bool sk, .slice ak lk ck]] w fun e w' => e = .returned (.string ⟨(118 :: Lib.decDigits v ++ if k = 0 then [] else 43 :: Lib.decDigits k.toNat).toArray⟩) ∧ Below w.heap.size w w' := by
  go_enter Tryz.func62, Tryz.ntmps62
  go_wp2_with fail
  have x := (tb_new w ap 1 cp sk ak lk ck).below (below_alloc _ (.cells #[.pointer none, .slice none 0 0] 112))
  have hbu := builder_new 112 5 (w.alloc (.cells #[.slice ap 1 cp, .bool sk, .slice ak lk ck] 27))
  rw [show (w.alloc (.cells #[.slice ap 1 cp, .bool sk, .slice ak lk ck] 27)).heap.size = w.heap.size + 1 from by simp] at hbu
  have hsz : w.heap.size + 1 + 1 ≤ ((w.alloc (.cells #[.slice ap 1 cp, .bool sk, .slice ak lk ck] 27)).alloc (.cells #[.pointer none, .slice none 0 0] 112)).heap.size := by simp
  have b0 : Below w.heap.size w ((w.alloc (.cells #[.slice ap 1 cp, .bool sk, .slice ak lk ck] 27)).alloc (.cells #[.pointer none, .slice none 0 0] 112)) := below_alloc' (below_alloc _ _) _
  generalize ((w.alloc (.cells #[.slice ap 1 cp, .bool sk, .slice ak lk ck] 27)).alloc (.cells #[.pointer none, .slice none 0 0] 112)) = wb at *
  have hr1 : w.heap.size < w.heap.size + 1 := by omega
  have hrb : w.heap.size + 1 + 1 ≤ wb.heap.size := hsz
  generalize w.heap.size + 1 = r at *
  generalize hp : w.heap.size = p at *
  replace hp := hide hp
  replace b0 : Hid (Below w.heap.size w wb) := hp.out.symm ▸ b0
  go_loopw [10] (fun i wr => ((i = .int .i64 0 ∧ Lib.IsBuilder 112 5 r r (Lib.byteCells []) wr) ∨ (i = .int .i64 1 ∧ Lib.IsBuilder 112 5 r r (Lib.byteCells (118 :: Lib.decDigits v)) wr)) ∧ Hid (Below r wb wr)) (fun i _ => 1 - (intOf i).toNat)
  case atStart => exact ⟨.inl ⟨rfl, hbu⟩, Below.refl _ _⟩
  case round =>
    obtain ⟨hcase, kr⟩ := hrel
    clear hbu
    have kw : Hid (Below w.heap.size w wr) := b0.out.trans (kr.out.mono (by have := hp.out; omega))
    have hrw : r + 1 ≤ wr.heap.size := Nat.le_trans hrb kr.out.size
    have xr : TB wr p ap 1 cp sk ak lk ck := (kr.out.block p hr1).trans x
    rcases hcase with ⟨rfl, hbu⟩ | ⟨rfl, hbu⟩
    · obtain ⟨-, hPP⟩ := hP.below kw.out
      rcases hPP with h0 | ⟨bp, op, rfl, hbp, hPP⟩
      · omega
      obtain ⟨s, a, l, c, e0, e1, e2, hz, hl, -⟩ := hPP 0 (by simp)
      rw [show ([((v : Int), (1 : Int))] : List (Int × Int))[0] = ((v : Int), 1) from rfl] at e0 hz
      dsimp only at e0 hz
      rw [Nat.zero_mul, Nat.add_zero] at e0 e1 e2
      obtain rfl := hz.plus (by decide)
      have pb := pb_new wr v false a l c
      have kp := below_alloc wr (.cells #[.int .i64 v, .bool false, .slice a l c] 52)
      have hbup := builder_below hbu kp
      have HH := hide (And.intro pb (And.intro kp (And.intro hbup (hz.below kp))))
      clear pb kp hbup hPP
      go_wp2_with fail
      obtain ⟨pb, kp, hbup, hzp⟩ := HH.out
      clear HH hbu hz e0 e1 e2
      have hqr : r + 1 ≤ (wr.alloc (.cells #[.int .i64 v, .bool false, .slice a l c] 52)).heap.size := Nat.le_trans hrw kp.size
      replace kr := hide (kr.out.trans (kp.mono (by omega)))
      generalize wr.alloc (.cells #[.int .i64 v, .bool false, .slice a l c] 52) = wp at *
      refine (abs_n hzp.zm (by omega)).mono ?_
      rintro e w1 ⟨s1, a1, l1, c1, rfl, hz1, k1, hl1⟩
      replace hbup := builder_below hbup k1
      replace pb := pb.below9 k1
      replace kr := hide (kr.out.trans (k1.mono (by omega)))
      have hq1 : r + 1 ≤ w1.heap.size := Nat.le_trans hqr k1.size
      have ht1 : Tab w1 := htab.below (b0.out.trans (kr.out.mono (by have := hp.out; omega)))
      clear k1 hzp kp
      go_wp2_with fail
      refine (ztext_n hz1.zm (by omega) ht1).mono ?_
      rintro e w2 ⟨rfl, k2⟩
      rw [ztext_one]
      replace hbup := builder_below hbup k2
      replace pb := pb.below9 k2
      replace kr := hide (kr.out.trans (k2.mono (by omega)))
      have hq2 : r + 1 ≤ w2.heap.size := Nat.le_trans hq1 k2.size
      clear k2 hz1 ht1
      have q0 := pb.c0
      go_wp2_with fail
      refine (itoa_small v hv _).mono ?_
      rintro e w3 ⟨rfl, k3⟩
      replace hbup := builder_below hbup k3
      replace kr := hide (kr.out.trans (k3.mono (by omega)))
      have hq3 : r + 1 ≤ w3.heap.size := Nat.le_trans hq2 k3.size
      have hd2 := dec_sm6 hv
      clear k3 q0
      generalize hD : Lib.decDigits v = D at *
      go_wp2_with fail
      rw [ba_cons]
      refine (write_lay r r _ _ w3 hbup (by rw [Lib.byteCells_length, size_list]; simp; omega) (by omega)).mono ?_
      rintro e w4 ⟨rfl, hbu4, k4⟩
      rw [strCells_list, byteCells_append, List.nil_append] at hbu4
      have kr4 := hide (kr.out.trans k4)
      clear hbup k4 kr
      go_wp2
      go_round
      case rel => exact ⟨.inr ⟨rfl, .inr (by rw [hD]; exact hbu4)⟩, kr4.out⟩
      case measure => simp [intOf]
    · have q1 := xr.c1
      have q2 := xr.c2
      go_wp2_with fail
      have hkr := hk.below kw.out
      refine (zsign_n hkr.zm (by omega)).mono ?_
      rintro e w1 ⟨rfl, k1⟩
      have hbu1 := builder_below hbu k1
      have x1 := xr.below k1
      have hk1 := hkr.below k1
      have hq1 : r + 1 ≤ w1.heap.size := Nat.le_trans hrw k1.size
      have kr1 := hide (kr.out.trans (k1.mono (by omega)))
      clear hbu xr hkr k1 q1 q2 kr
      by_cases hk00 : k = 0
      · subst hk00
        rw [show cmpI 0 0 = 0 from rfl]
        go_wp2_with fail
        refine (string_lay _ _ _ w1 hbu1 (by omega)).mono ?_
        rintro e w2 ⟨rfl, k2⟩
        have kf : Hid (Below w.heap.size w w2) := (b0.out.trans ((kr1.out.trans k2).mono (by have := hp.out; omega)))
        clear k2
        go_wp2
        go_ret
        exact ⟨by first | rfl | simp, kf.out⟩
      · rw [show cmpI k 0 = 1 from cmpI_gt (by omega)]
        obtain rfl := hk1.plus hk0
        have ht1 : Tab w1 := htab.below (b0.out.trans (kr1.out.mono (by have := hp.out; omega)))
        obtain ⟨n9, h9, h8, -⟩ := id hk1
        have hkn : Nm w1 ak lk ck k := by
          have h7 : k = n9 := by simpa [sg] using h8
          rw [h7]; exact h9.nm
        have hdl := dec_bound hkn
        have hzt : Hid (zText ((k.natAbs : Nat) : Int) = ⟨(Lib.decDigits k.toNat).toArray⟩) := (show _ = _ by unfold zText; rw [if_neg (by omega)]; congr 3; omega)
        have hres : Hid ((118 :: (Lib.decDigits v ++ if k = 0 then [] else 43 :: Lib.decDigits k.toNat)) = 118 :: Lib.decDigits v ++ (43 :: Lib.decDigits k.toNat)) := (show _ = _ by rw [if_neg hk00]; rfl)
        clear hkn h9 h8
        generalize hDk : Lib.decDigits k.toNat = D at *
        replace hDk := hide hDk
        replace hdl : D.length ≤ 10485770 := by omega
        have hrle : r ≤ w1.heap.size := by omega
        have hdv := dec_sm6 hv
        go_wp2_with fail
        have q1 := x1.c1
        have q2 := x1.c2
        go_region_with (first | (go_at_call 86; with_reducible refine (sign6_n).mono ?_; rintro e w2 ⟨rfl, hg2⟩; have q3 := (TB.below x1 (show Below w1.heap.size w1 w2 by (repeat' (first | with_reducible exact Below.refl _ _ | with_reducible assumption | with_reducible refine grow_step (by with_reducible assumption) ?_ | with_reducible refine grow_drew ?_ | with_reducible refine grow_alloc ?_ _ | with_reducible refine grow_drewN ?_ _)))).c1; have q4 := (TB.below x1 (show Below w1.heap.size w1 w2 by (repeat' (first | with_reducible exact Below.refl _ _ | with_reducible assumption | with_reducible refine grow_step (by with_reducible assumption) ?_ | with_reducible refine grow_drew ?_ | with_reducible refine grow_alloc ?_ _ | with_reducible refine grow_drewN ?_ _)))).c2) | (go_at_call 16; with_reducible refine (abs_n (Zn.zm (Zn.below hk1 (by (repeat' (first | with_reducible exact Below.refl _ _ | with_reducible assumption | with_reducible refine grow_step (by with_reducible assumption) ?_ | with_reducible refine grow_drew ?_ | with_reducible refine grow_alloc ?_ _ | with_reducible refine grow_drewN ?_ _))))) (by omega)).mono ?_; rintro e w3 ⟨s3, a3, l3, c3, rfl, hz3, hg3, hl3⟩) | (go_at_call 63; with_reducible refine (ztext_n (Zn.zm (Zn.below hz3 (by (repeat' (first | with_reducible exact Below.refl _ _ | with_reducible assumption | with_reducible refine grow_step (by with_reducible assumption) ?_ | with_reducible refine grow_drew ?_ | with_reducible refine grow_alloc ?_ _ | with_reducible refine grow_drewN ?_ _))))) (by omega) (Tab.below ht1 (by (repeat' (first | with_reducible exact Below.refl _ _ | with_reducible assumption | with_reducible refine grow_step (by with_reducible assumption) ?_ | with_reducible refine grow_drew ?_ | with_reducible refine grow_alloc ?_ _ | with_reducible refine grow_drewN ?_ _))))).mono ?_; rintro e w4 ⟨rfl, hg4⟩; rw [hzt.out]) | (go_at_call 85; refine (write_lay r r _ _ _ (builder_below hbu1 (by (repeat' (first | with_reducible exact Below.refl _ _ | with_reducible assumption | with_reducible refine grow_step (by with_reducible assumption) ?_ | with_reducible refine grow_drew ?_ | with_reducible refine grow_alloc ?_ _ | with_reducible refine grow_drewN ?_ _)))) (by rw [Lib.byteCells_length, ba_cons, size_list]; simp; omega) (Nat.le_trans hrle (Below.size (show Below w1.heap.size w1 _ by (repeat' (first | with_reducible exact Below.refl _ _ | with_reducible assumption | with_reducible refine grow_step (by with_reducible assumption) ?_ | with_reducible refine grow_drew ?_ | with_reducible refine grow_alloc ?_ _ | with_reducible refine grow_drewN ?_ _)))))).mono ?_; rintro e w5 ⟨rfl, hbu5, hW⟩))
        all_goals
          rw [ba_cons, strCells_list, byteCells_append, ← hres.out] at hbu5
          have kw5 : Below r w1 w5 := Below.trans (Below.mono (show Below w1.heap.size w1 w4 by (repeat' (first | with_reducible exact Below.refl _ _ | with_reducible assumption | with_reducible refine grow_step (by with_reducible assumption) ?_ | with_reducible refine grow_drew ?_ | with_reducible refine grow_alloc ?_ _ | with_reducible refine grow_drewN ?_ _))) hrle) hW
          have hs5 : r ≤ w5.heap.size := Nat.le_trans hrle kw5.size
          have kr5 := hide (kr1.out.trans kw5)
          clear kw5 hW hg2 hg3 hg4 hbu1 kr1
          go_wp2_with fail
          refine (string_lay _ _ _ w5 (.inr hbu5) hs5).mono ?_
          rintro e w6 ⟨rfl, k6⟩
          have kf : Hid (Below w.heap.size w w6) := (b0.out.trans ((kr5.out.trans k6).mono (by have := hp.out; omega)))
          clear k6
          go_wp2
          go_ret
          exact ⟨by simp; exact hDk.out.symm, kf.out⟩
end Go.Proofs.YtofhodimmeiahaaGreatDoor

namespace Go.Proofs.YtofhodimmeiahaaGreatDoor
open Go.RowKit Go.Sort Go.Shelf
open Tm At

/-- the form of 'v0 times 4 is divided by -6' -/
theorem form_div : divF 3 (-6) [(0, 4)] 0 = ⟨3, 3, [(0, 1)], 0⟩ := by rfl
theorem form_less : lessF [(1, 2)] 3 = ⟨2, 0, [(1, 1)], 2⟩ := by rfl
theorem form_div2 : divF 3 3 [(0, 1)] 0 = ⟨3, 3, [(0, 1)], 0⟩ := by rfl
theorem form_less2 : lessF [(1, 1)] 2 = ⟨2, 0, [(1, 1)], 2⟩ := by rfl
theorem zt_3 : zText 3 = ⟨#[51]⟩ := by
  unfold zText
  rw [if_neg (by decide)]
  show (⟨(Lib.decDigits 3).toArray⟩ : ByteArray) = _
  rw [Lib.decDigits_one (by decide)]
  rfl
theorem tt_0 : (⟨(118 :: Lib.decDigits 0 ++ if (0 : Int) = 0 then [] else 43 :: Lib.decDigits (0 : Int).toNat).toArray⟩ : ByteArray) = ⟨#[118, 48]⟩ := by
  rw [if_pos rfl, Lib.decDigits_one (by decide)]
  rfl
theorem tt_1 : (⟨(118 :: Lib.decDigits 1 ++ if (2 : Int) = 0 then [] else 43 :: Lib.decDigits (2 : Int).toNat).toArray⟩ : ByteArray) = ⟨#[118, 49, 43, 50]⟩ := by
  rw [if_neg (by decide), show (2 : Int).toNat = 2 from rfl, Lib.decDigits_one (by decide), Lib.decDigits_one (by decide)]
  rfl
theorem aq6 {w w' : World} {p : Nat} {kd : Int} {s : Bool} {a : Option Addr} {l c : Nat} {ad : Option Addr} {n cp : Nat} {t : Bool} {a5 : Option Addr} {m d : Nat} (x : AB w p kd s a l c ad n cp t a5 m d) (k : Below w.heap.size w w') :
    w'.cell? ⟨p, 1, none⟩ = some (.bool s) ∧ w'.cell? ⟨p, 2, none⟩ = some (.slice a l c) ∧ w'.cell? ⟨p, 3, none⟩ = some (.slice ad n cp) ∧ w'.cell? ⟨p, 4, none⟩ = some (.bool t) ∧ w'.cell? ⟨p, 5, none⟩ = some (.slice a5 m d) ∧ Below w.heap.size w w' :=
  ⟨(x.below k).c1, (x.below k).c2, (x.below k).c3, (x.below k).c4, (x.below k).c5, k⟩
theorem std_1 (v : Int) (c : Int) (h : c ≠ 0) : Std [(v, c)] := by
  refine ⟨?_, ?_⟩ <;> simp [h]

set_option maxRecDepth 100000 in
set_option maxHeartbeats 6400000 in
/-- the text of a divisibility of one part -/
theorem text_div {w : World} {sd : Bool} {ad : Option Addr} {ld cd : Nat} {ap : Option Addr} {cp : Nat} {sk : Bool} {ak : Option Addr} {lk ck : Nat} {B : Nat} (hd : Zn w sd ad ld cd 3) (hld : ld ≤ B) (hP : Pn w ap 1 [(0, 1)] B) (hk : Zn w sk ak lk ck 0) (hlk : lk ≤ B) (hB : B ≤ 1000) (htab : Tab w) :
    Calls Tryz.prog 29 #[.agg #[.int .i64 3, .bool sd, .slice ad ld cd, .slice ap 1 cp, .bool sk, .slice ak lk ck]] w fun x w' => x = .returned (.string ⟨#[51, 124, 118, 48]⟩) ∧ Below w.heap.size w w' := by
  go_enter Tryz.func29, Tryz.ntmps29
  go_wp2_with fail
  have x := AB.new w 3 sd ad ld cd ap 1 cp sk ak lk ck
  have b0 := below_alloc w (.cells #[.int .i64 3, .bool sd, .slice ad ld cd, .slice ap 1 cp, .bool sk, .slice ak lk ck] 29)
  replace hd := hd.below b0
  replace hP := hP.below b0
  replace hk := hk.below b0
  have htab0 := htab
  clear htab
  generalize w.alloc (.cells #[.int .i64 3, .bool sd, .slice ad ld cd, .slice ap 1 cp, .bool sk, .slice ak lk ck] 29) = wb at *
  generalize hp : w.heap.size = p at *
  replace b0 : Hid (Below w.heap.size w wb) := hp ▸ b0
  replace hp := hide hp
  refine (anorm_n (kd := 3) (B := B) hd.zm hld hP.pr hk.zm hlk (by omega) (by omega)).mono ?_
  rintro e w1 ⟨qs, hS, hc, hA, k1⟩
  obtain rfl : qs = [(0, 1)] := std_unique hS (std_1 0 1 (by decide)) hc
  have hfm : formA 3 3 [(0, 1)] 0 = .inl ⟨3, 3, [(0, 1)], 0⟩ := by unfold formA; rw [if_neg (by decide), if_neg (by decide), if_pos (by decide), if_neg (by decide), form_div2]
  rw [hfm] at hA
  obtain ⟨sd1, ad1, ld1, cd1, ap1, np1, cp1, sk1, ak1, lk1, ck1, rfl, hz1, hlz1, hPn1, hnp1, hk1, hlk1, hnew1⟩ := hA
  dsimp only at hz1 hPn1 hk1
  obtain rfl : np1 = 1 := hPn1.1.symm
  have hplb := x.lt
  have kp0 : w.heap.size ≤ p := by have := hp.out; omega
  replace x := x.below k1
  have hpl := x.lt
  have kk := hide (grow_step k1 b0.out)
  have g6 := ab_set w1 p (.int .i64 3) (.bool sd1) (.slice ad1 ld1 cd1) (.slice ap1 1 cp1) (.bool sk1) (.slice ak1 lk1 ck1)
  have hU := ab_noU x
  have hz2 := hz1.grownU g6 hU
  have hk2 := hk1.grownU g6 hU
  have hP2 := hPn1.away (fun b off e => by have h1 := hnew1 b off e; have h2 := hplb; omega) g6 hU
  have x2 : AB _ p 3 sd1 ad1 ld1 cd1 ap1 1 cp1 sk1 ak1 lk1 ck1 := ab_fin x 3 sd1 ad1 ld1 cd1 ap1 1 cp1 sk1 ak1 lk1 ck1
  have kw2 := hide (below_grown kk.out g6 (by have := hp.out; omega))
  have ht2 : Tab _ := htab0.below kw2.out
  have HH := hide (And.intro hz2 (And.intro hk2 (And.intro hP2 (And.intro x2 ht2))))
  have e0 := x.c0
  have e1 := x.c1
  have e2 := x.c2
  have e3 := x.c3
  have e4 := x.c4
  have e5 := x.c5
  have f0 := x.f 0
  have f1 := x.f 1
  have f2 := x.f 2
  have f3 := x.f 3
  have f4 := x.f 4
  have f5 := x.f 5
  clear hz1 hk1 hPn1 hnew1 hz2 hk2 hP2 x2 ht2 hU g6 hfm hS hc k1
  go_wp2_with fail
  obtain ⟨hz2, hk2, hP2, x2, ht2⟩ := HH.out
  clear HH e0 e1 e2 e3 e4 e5 f0 f1 f2 f3 f4 f5
  generalize (((((w1.setCell ⟨p, 0, none⟩ (.int .i64 3)).setCell ⟨p, 1, none⟩ (.bool sd1)).setCell ⟨p, 2, none⟩ (.slice ad1 ld1 cd1)).setCell ⟨p, 3, none⟩ (.slice ap1 1 cp1)).setCell ⟨p, 4, none⟩ (.bool sk1)).setCell ⟨p, 5, none⟩ (.slice ak1 lk1 ck1) = w2 at *
  replace hP2 : Pn w2 ap1 1 [(((0 : Nat) : Int), 1)] (B + 1 + 16) := hP2
  go_region_held3 (fun w' => w'.cell? ⟨p, 1, none⟩ = some (.bool sd1) ∧ w'.cell? ⟨p, 2, none⟩ = some (.slice ad1 ld1 cd1) ∧ w'.cell? ⟨p, 3, none⟩ = some (.slice ap1 1 cp1) ∧ w'.cell? ⟨p, 4, none⟩ = some (.bool sk1) ∧ w'.cell? ⟨p, 5, none⟩ = some (.slice ak1 lk1 ck1) ∧ Below w2.heap.size w2 w')
    ((refine aq6 x2 ?_; (repeat' (first | with_reducible exact Below.refl _ _ | with_reducible assumption | with_reducible refine grow_step (by with_reducible assumption) ?_ | with_reducible refine grow_drew ?_ | with_reducible refine grow_alloc ?_ _ | with_reducible refine grow_drewN ?_ _))))
    (first | (go_at_call 63; with_reducible refine (ztext_n (Zn.zm (Zn.below hz2 (by (repeat' (first | with_reducible exact Below.refl _ _ | with_reducible assumption | with_reducible refine grow_step (by with_reducible assumption) ?_ | with_reducible refine grow_drew ?_ | with_reducible refine grow_alloc ?_ _ | with_reducible refine grow_drewN ?_ _))))) (by omega) (Tab.below ht2 (by (repeat' (first | with_reducible exact Below.refl _ _ | with_reducible assumption | with_reducible refine grow_step (by with_reducible assumption) ?_ | with_reducible refine grow_drew ?_ | with_reducible refine grow_alloc ?_ _ | with_reducible refine grow_drewN ?_ _))))).mono ?_; rintro e w4 ⟨rfl, hg4⟩; rw [zt_3]) | (go_at_call 62; with_reducible refine (termText_one (Pn.below hP2 (by (repeat' (first | with_reducible exact Below.refl _ _ | with_reducible assumption | with_reducible refine grow_step (by with_reducible assumption) ?_ | with_reducible refine grow_drew ?_ | with_reducible refine grow_alloc ?_ _ | with_reducible refine grow_drewN ?_ _)))) (Zn.below hk2 (by (repeat' (first | with_reducible exact Below.refl _ _ | with_reducible assumption | with_reducible refine grow_step (by with_reducible assumption) ?_ | with_reducible refine grow_drew ?_ | with_reducible refine grow_alloc ?_ _ | with_reducible refine grow_drewN ?_ _)))) hlk1 (by omega) (by decide) (by decide) (Tab.below ht2 (by (repeat' (first | with_reducible exact Below.refl _ _ | with_reducible assumption | with_reducible refine grow_step (by with_reducible assumption) ?_ | with_reducible refine grow_drew ?_ | with_reducible refine grow_alloc ?_ _ | with_reducible refine grow_drewN ?_ _))))).mono ?_; rintro e w5 ⟨rfl, hg5⟩; rw [tt_0]))
  rename_i hH
  have kf := hide (kw2.out.trans (hH.2.2.2.2.2.mono kw2.out.size))
  clear hH hg4 hg5
  go_wp2
  go_ret
  exact ⟨rfl, kf.out⟩

set_option maxRecDepth 100000 in
set_option maxHeartbeats 6400000 in
/-- the text of a comparison of one part -/
theorem text_less {w : World} {sd : Bool} {ad : Option Addr} {ld cd : Nat} {ap : Option Addr} {cp : Nat} {sk : Bool} {ak : Option Addr} {lk ck : Nat} {B : Nat} (hd : Zn w sd ad ld cd 0) (hld : ld ≤ B) (hP : Pn w ap 1 [(1, 1)] B) (hk : Zn w sk ak lk ck 2) (hlk : lk ≤ B) (hB : B ≤ 1000) (htab : Tab w) :
    Calls Tryz.prog 29 #[.agg #[.int .i64 2, .bool sd, .slice ad ld cd, .slice ap 1 cp, .bool sk, .slice ak lk ck]] w fun x w' => x = .returned (.string ⟨#[48, 60, 118, 49, 43, 50]⟩) ∧ Below w.heap.size w w' := by
  go_enter Tryz.func29, Tryz.ntmps29
  go_wp2_with fail
  have x := AB.new w 2 sd ad ld cd ap 1 cp sk ak lk ck
  have b0 := below_alloc w (.cells #[.int .i64 2, .bool sd, .slice ad ld cd, .slice ap 1 cp, .bool sk, .slice ak lk ck] 29)
  replace hd := hd.below b0
  replace hP := hP.below b0
  replace hk := hk.below b0
  have htab0 := htab
  clear htab
  generalize w.alloc (.cells #[.int .i64 2, .bool sd, .slice ad ld cd, .slice ap 1 cp, .bool sk, .slice ak lk ck] 29) = wb at *
  generalize hp : w.heap.size = p at *
  replace b0 : Hid (Below w.heap.size w wb) := hp ▸ b0
  replace hp := hide hp
  refine (anorm_n (kd := 2) (B := B) hd.zm hld hP.pr hk.zm hlk (by omega) (by omega)).mono ?_
  rintro e w1 ⟨qs, hS, hc, hA, k1⟩
  obtain rfl : qs = [(1, 1)] := std_unique hS (std_1 1 1 (by decide)) hc
  have hfm : formA 2 0 [(1, 1)] 2 = .inl ⟨2, 0, [(1, 1)], 2⟩ := by unfold formA; rw [if_neg (by decide), if_pos rfl, form_less2]
  rw [hfm] at hA
  obtain ⟨sd1, ad1, ld1, cd1, ap1, np1, cp1, sk1, ak1, lk1, ck1, rfl, hz1, hlz1, hPn1, hnp1, hk1, hlk1, hnew1⟩ := hA
  dsimp only at hz1 hPn1 hk1
  obtain rfl : np1 = 1 := hPn1.1.symm
  have hplb := x.lt
  have kp0 : w.heap.size ≤ p := by have := hp.out; omega
  replace x := x.below k1
  have hpl := x.lt
  have kk := hide (grow_step k1 b0.out)
  have g6 := ab_set w1 p (.int .i64 2) (.bool sd1) (.slice ad1 ld1 cd1) (.slice ap1 1 cp1) (.bool sk1) (.slice ak1 lk1 ck1)
  have hU := ab_noU x
  have hz2 := hz1.grownU g6 hU
  have hk2 := hk1.grownU g6 hU
  have hP2 := hPn1.away (fun b off e => by have h1 := hnew1 b off e; have h2 := hplb; omega) g6 hU
  have x2 : AB _ p 2 sd1 ad1 ld1 cd1 ap1 1 cp1 sk1 ak1 lk1 ck1 := ab_fin x 2 sd1 ad1 ld1 cd1 ap1 1 cp1 sk1 ak1 lk1 ck1
  have kw2 := hide (below_grown kk.out g6 (by have := hp.out; omega))
  have ht2 : Tab _ := htab0.below kw2.out
  have HH := hide (And.intro hz2 (And.intro hk2 (And.intro hP2 (And.intro x2 ht2))))
  have e0 := x.c0
  have e1 := x.c1
  have e2 := x.c2
  have e3 := x.c3
  have e4 := x.c4
  have e5 := x.c5
  have f0 := x.f 0
  have f1 := x.f 1
  have f2 := x.f 2
  have f3 := x.f 3
  have f4 := x.f 4
  have f5 := x.f 5
  clear hz1 hk1 hPn1 hnew1 hz2 hk2 hP2 x2 ht2 hU g6 hfm hS hc k1
  go_wp2_with fail
  obtain ⟨hz2, hk2, hP2, x2, ht2⟩ := HH.out
  clear HH e0 e1 e2 e3 e4 e5 f0 f1 f2 f3 f4 f5
  generalize (((((w1.setCell ⟨p, 0, none⟩ (.int .i64 2)).setCell ⟨p, 1, none⟩ (.bool sd1)).setCell ⟨p, 2, none⟩ (.slice ad1 ld1 cd1)).setCell ⟨p, 3, none⟩ (.slice ap1 1 cp1)).setCell ⟨p, 4, none⟩ (.bool sk1)).setCell ⟨p, 5, none⟩ (.slice ak1 lk1 ck1) = w2 at *
  replace hP2 : Pn w2 ap1 1 [(((1 : Nat) : Int), 1)] (B + 1 + 16) := hP2
  refine (termText_one hP2 hk2 hlk1 (by omega) (by decide) (by decide) ht2).mono ?_
  rintro e w5 ⟨rfl, k5⟩
  rw [tt_1]
  have kf := hide (kw2.out.trans (k5.mono kw2.out.size))
  clear k5
  go_wp2
  go_ret
  exact ⟨rfl, kf.out⟩
set_option maxRecDepth 100000 in
set_option maxHeartbeats 6400000 in
theorem awake6_n (w : World) (htab : Tab w) :
    Calls Tryz.prog 7 #[] w fun x w' => x = .returned (.bool true) ∧ Below w.heap.size w w' := by
  go_enter Tryz.func7, Tryz.ntmps7
  go_wp2_with fail
  refine (zof_n (-6) (by decide) (by decide) w).mono ?_
  rintro e w1 ⟨s1, a1, l1, c1, rfl, hz1, k1, hl1⟩
  replace k1 := hide k1
  go_wp2_with fail
  refine (zof_n 4 (by decide) (by decide) w1).mono ?_
  rintro e w2 ⟨s2, a2, l2, c2, rfl, hz2, k2, hl2⟩
  replace hz1 := hz1.below k2
  replace k2 := hide (grow_step k2 k1.out)
  clear k1
  go_wp2_with fail
  refine (tvar_n (B := 2) (by unfold I64; decide) (by decide)).mono ?_
  rintro e w3 ⟨ad3, cp3, rs3, rfl, hT3, hrs3⟩
  replace hz1 := hz1.below hT3.below
  replace hz2 := hz2.below hT3.below
  have hP3 := hT3.pn
  rw [hrs3] at hP3
  have hZ3 := hT3.zn
  have k3 := hide (grow_step hT3.below k2.out)
  clear k2 hT3
  go_wp2_with fail
  refine (tscale_n hz2.zm (by omega) hP3.pr hZ3.zm (by decide) (by decide)).mono ?_
  rintro e w4 ⟨ad4, n4, cp4, s4, a4, l4, c4, qs4, rfl, hT4, hn4, hS4, hc4, k4⟩
  obtain rfl : qs4 = [(0, 4)] := std_unique hS4 (std_1 0 4 (by decide)) (fun v => hc4 v)
  replace hz1 := hz1.below k4
  replace k4 := hide (grow_step k4 k3.out)
  obtain ⟨hP4, hZ4, hl4⟩ := hT4
  have hl4' : l4 ≤ 6 := by omega
  replace hP4 := hP4.mono (B' := 6) (by omega)
  clear k3 hl4 hS4 hc4 hz2 hP3 hZ3
  go_wp2_with fail
  refine (adiv_n (B := 6) hz1.zm (by omega) hP4 hZ4 hl4' (by omega) (by omega) (by decide)).mono ?_
  rintro e w5 ⟨qs5, hS5, hc5, hA5, k5⟩
  obtain rfl : qs5 = [(0, 4)] := std_unique hS5 (std_1 0 4 (by decide)) hc5
  rw [show divF 3 (-6) [(0, 4)] (4 * 0) = _ from form_div] at hA5
  obtain ⟨sd5, ad5, ld5, cd5, ap5, np5, cp5, sk5, ak5, lk5, ck5, rfl, hd5, hld5, hP5, hnp5, hk5, hlk5, -⟩ := hA5
  dsimp only at hd5 hP5 hk5
  obtain rfl : np5 = 1 := hP5.1.symm
  have hA5 := AB.new w5 3 sd5 ad5 ld5 cd5 ap5 1 cp5 sk5 ak5 lk5 ck5
  have ka := below_alloc w5 (.cells #[.int .i64 3, .bool sd5, .slice ad5 ld5 cd5, .slice ap5 1 cp5, .bool sk5, .slice ak5 lk5 ck5] 29)
  replace hd5 := hd5.below ka
  replace hP5 := hP5.below ka
  replace hk5 := hk5.below ka
  replace k5 := hide (grow_step ka (grow_step k5 k4.out))
  clear k4 ka hS5 hc5 hP4 hZ4 hz1
  go_wp2_with fail
  generalize w5.alloc (.cells #[.int .i64 3, .bool sd5, .slice ad5 ld5 cd5, .slice ap5 1 cp5, .bool sk5, .slice ak5 lk5 ck5] 29) = wA at *
  generalize w5.heap.size = bA at *
  refine (zof_n 2 (by decide) (by decide) wA).mono ?_
  rintro e w2 ⟨s2, a2, l2, c2, rfl, hz2, k2, hl2⟩
  have KA := hide k2
  have KW := k5
  clear k5 k2
  go_wp2_with fail
  refine (tvar_n (B := 2) (by unfold I64; decide) (by decide)).mono ?_
  rintro e w3 ⟨ad3, cp3, rs3, rfl, hT3, hrs3⟩
  replace hz2 := hz2.below hT3.below
  have hP3 := hT3.pn
  rw [hrs3] at hP3
  have hZ3 := hT3.zn
  replace KA := hide (grow_step hT3.below KA.out)
  clear hT3
  go_wp2_with fail
  refine (tscale_n hz2.zm (by omega) hP3.pr hZ3.zm (by decide) (by decide)).mono ?_
  rintro e w4 ⟨ad4, n4, cp4, s4, a4, l4, c4, qs4, rfl, hT4, hn4, hS4, hc4, k4⟩
  obtain rfl : qs4 = [(1, 2)] := std_unique hS4 (std_1 1 2 (by decide)) (fun v => hc4 v)
  replace KA := hide (grow_step k4 KA.out)
  clear k4 hS4 hc4 hz2 hP3 hZ3
  replace hT4 := hT4.mono (B' := 6) (by omega)
  go_wp2_with fail
  refine (zof_n 3 (by decide) (by decide) w4).mono ?_
  rintro e w6 ⟨s6, a6, l6, c6, rfl, hz6, k6, hl6⟩
  replace hT4 := hT4.below k6
  replace KA := hide (grow_step k6 KA.out)
  clear k6
  go_wp2_with fail
  refine (tconst_n (B := 6) hz6.zm (by omega) (by decide)).mono ?_
  rintro e w7 ⟨s7, a7, l7, c7, rfl, hT7⟩
  replace hT4 := hT4.below hT7.below
  replace KA := hide (grow_step hT7.below KA.out)
  have hT7' := hT7.tw
  clear hT7 hz6
  go_wp2_with fail
  refine (tadd_n (B := 6) hT4.1 hT4.2.1 hT4.2.2 hT7'.1 hT7'.2.1 hT7'.2.2 (by omega)).mono ?_
  rintro e w8 ⟨ad8, n8, cp8, s8, a8, l8, c8, rs8, rfl, hT8, hn8, hS8, hc8⟩
  replace KA := hide (grow_step hT8.below KA.out)
  have hT8' := hT8.tw
  clear hT8 hT4 hT7'
  generalize rs8.map Raw.p = qs8 at *
  obtain rfl : qs8 = [(1, 2)] := std_unique hS8 (std_1 1 2 (by decide)) (fun v => hc8 v)
  obtain ⟨hP8, hZ8, hl8⟩ := hT8'
  replace hP8 := hP8.mono (B' := 12) (by omega)
  go_wp2_with fail
  refine (less_n (B := 12) hP8 hZ8 (by omega) (by omega) (by omega)).mono ?_
  rintro e w9 ⟨qs9, hS9, hc9, hA9, k9⟩
  obtain rfl : qs9 = [(1, 2)] := std_unique hS9 (std_1 1 2 (by decide)) hc9
  rw [show lessF [(1, 2)] (2 * 0 + 3) = _ from form_less] at hA9
  obtain ⟨sd6, ad6, ld6, cd6, ap6, np6, cp6, sk6, ak6, lk6, ck6, rfl, hd6, hld6, hP6, hnp6, hk6, hlk6, -⟩ := hA9
  dsimp only at hd6 hP6 hk6
  obtain rfl : np6 = 1 := hP6.1.symm
  have hA6 := AB.new w9 2 sd6 ad6 ld6 cd6 ap6 1 cp6 sk6 ak6 lk6 ck6
  have kb := below_alloc w9 (.cells #[.int .i64 2, .bool sd6, .slice ad6 ld6 cd6, .slice ap6 1 cp6, .bool sk6, .slice ak6 lk6 ck6] 29)
  replace hd6 := hd6.below kb
  replace hP6 := hP6.below kb
  replace hk6 := hk6.below kb
  replace KA := hide (grow_step kb (grow_step k9 KA.out))
  clear k9 kb hS9 hc9 hS8 hc8 hP8 hZ8
  replace hA5 := hA5.below KA.out
  have u0 := hA5.c0
  have u1 := hA5.c1
  have u2 := hA5.c2
  have u3 := hA5.c3
  have u4 := hA5.c4
  have u5 := hA5.c5
  go_wp2_with fail
  generalize w9.alloc (.cells #[.int .i64 2, .bool sd6, .slice ad6 ld6 cd6, .slice ap6 1 cp6, .bool sk6, .slice ak6 lk6 ck6] 29) = wB at *
  generalize w9.heap.size = bB at *
  have htB : Tab wB := htab.below (grow_step KA.out KW.out)
  refine (text_div (B := 23) (hd5.below KA.out) (by omega) ((hP5.below KA.out).mono (by omega)) (hk5.below KA.out) (by omega) (by decide) htB).mono ?_
  rintro e wC ⟨rfl, kC⟩
  replace hA6 := hA6.below kC
  replace hd6 := hd6.below kC
  replace hP6 := hP6.below kC
  replace hk6 := hk6.below kC
  replace KA := hide (grow_step kC KA.out)
  have htC := htB.below kC
  clear kC u0 u1 u2 u3 u4 u5 hA5 hd5 hP5 hk5 htB
  have u0 := hA6.c0
  have u1 := hA6.c1
  have u2 := hA6.c2
  have u3 := hA6.c3
  have u4 := hA6.c4
  have u5 := hA6.c5
  go_wp2_with fail
  refine (text_less (B := 12 + n8 + 16) hd6 hld6 hP6 hk6 hlk6 (by omega) htC).mono ?_
  rintro e wD ⟨rfl, kD⟩
  have kf := hide (grow_step (grow_step kD KA.out) KW.out)
  clear kD
  go_wp2
  go_ret
  exact ⟨rfl, kf.out⟩

end Go.Proofs.YtofhodimmeiahaaGreatDoor

namespace Go.Proofs.YtofhodimmeiahaaGreatDoor
open Go.RowKit Go.Sort Go.Shelf
open Tm At

theorem formA_bad {kd d : Int} {qs : List (Int × Int)} {k er : Int} (h : formA kd d qs k = .inr er) : er = 11 ∨ er = 1 := by
  unfold formA at h
  split at h
  · cases h
  · split at h
    · cases h
    · split at h
      · split at h
        · cases h; exact .inl rfl
        · cases h
      · cases h; exact .inr rfl
/-- a row of two numbers -/
def G2 (w : World) (b : Nat) (s1 : Bool) (a1 : Option Addr) (l1 c1 : Nat) (s2 : Bool) (a2 : Option Addr) (l2 c2 : Nat) : Prop := w.heap[b]? = some (.cells #[.bool s1, .slice a1 l1 c1, .bool s2, .slice a2 l2 c2] 24 (0, 0))
theorem G2.lt {w : World} {b : Nat} {s1 : Bool} {a1 : Option Addr} {l1 c1 : Nat} {s2 : Bool} {a2 : Option Addr} {l2 c2 : Nat} (h : G2 w b s1 a1 l1 c1 s2 a2 l2 c2) : b < w.heap.size := (Array.getElem?_eq_some_iff.1 h).1
theorem G2.below {w w' : World} {b : Nat} {s1 : Bool} {a1 : Option Addr} {l1 c1 : Nat} {s2 : Bool} {a2 : Option Addr} {l2 c2 : Nat} (h : G2 w b s1 a1 l1 c1 s2 a2 l2 c2) (k : Below w.heap.size w w') : G2 w' b s1 a1 l1 c1 s2 a2 l2 c2 := (k.block b h.lt).trans h
theorem Zm.nm {w : World} {s : Bool} {a : Option Addr} {l c : Nat} {z : Int} (h : Zm w s a l c z) : Nm w a l c ((z.natAbs : Nat) : Int) := by
  obtain ⟨n, hn, rfl⟩ := h
  have h0 := hn.nonneg
  rw [show (((sg s n).natAbs : Nat) : Int) = n from by cases s <;> simp [sg] <;> omega]
  exact hn
theorem Zn.len_le {w w' : World} {s : Bool} {a : Option Addr} {l c : Nat} {z : Int} {a' : Option Addr} {l' c' : Nat} {n : Int} (h : Zn w s a l c z) (h' : Nm w' a' l' c' n) (hle : ((z.natAbs : Nat) : Int) ≤ n) : l ≤ l' := by
  obtain ⟨m, ⟨zs, h1, h2, h3⟩, h4, -⟩ := h
  obtain ⟨xs, g1, g2⟩ := h'
  have hm := (Cn.nm ⟨zs, h1, h2, h3⟩).nonneg
  have e : ((z.natAbs : Nat) : Int) = m := by rw [h4]; cases s <;> simp [sg] <;> omega
  rcases Nat.lt_or_ge l' l with hlt | hge
  · have := val_lt_of_length g1.2.2.2.1 h2 (by rw [g1.1, h1.1]; exact hlt)
    omega
  · exact hge
theorem gcd2_n {w : World} {b : Nat} {s1 : Bool} {a1 : Option Addr} {l1 c1 : Nat} {s2 : Bool} {a2 : Option Addr} {l2 c2 : Nat} {z1 z2 : Int} (h : G2 w b s1 a1 l1 c1 s2 a2 l2 c2) (h1 : Zm w s1 a1 l1 c1 z1) (h2 : Zm w s2 a2 l2 c2 z2) (hl1 : l1 ≤ 4294967296) (hl2 : l2 ≤ 4294967296) :
    Calls Tryz.prog 17 #[.slice (some ⟨b, 0, none⟩) 2 2] w fun e w' => ∃ s a l c, e = .returned (.agg #[.bool s, .slice a l c]) ∧ Zn w' s a l c ((Nat.gcd z1.natAbs z2.natAbs : Nat) : Int) ∧ Below w.heap.size w w' := by
  have hl : ZL w b 0 2 (fun i => if i = 0 then s1 else s2) (fun i => if i = 0 then a1 else a2) (fun i => if i = 0 then l1 else l2) (fun i => if i = 0 then c1 else c2) (fun i => if i = 0 then ((z1.natAbs : Nat) : Int) else ((z2.natAbs : Nat) : Int)) := by
    refine ⟨h.lt, fun i hi => ?_, fun i hi => ?_, fun i hi => ?_, fun i hi => ?_⟩ <;> (match i, hi with
      | 0, _ => first | exact cell_of_row w b 0 _ _ (0, 0) h | exact cell_of_row w b 1 _ _ (0, 0) h | exact h1.nm | exact hl1
      | 1, _ => first | exact cell_of_row w b 2 _ _ (0, 0) h | exact cell_of_row w b 3 _ _ (0, 0) h | exact h2.nm | exact hl2)
  refine (zgcd_any (cap := 2) hl (by simp [foldL]; omega) (by decide)).mono ?_
  rintro e w' ⟨s, a, l, c, rfl, hz, k, -⟩
  refine ⟨s, a, l, c, rfl, ?_, k⟩
  have he : fold gcdI 0 (fun i => if i = 0 then ((z1.natAbs : Nat) : Int) else ((z2.natAbs : Nat) : Int)) 2 = ((Nat.gcd z1.natAbs z2.natAbs : Nat) : Int) := by
    simp [fold, gcdI]
  rw [← he]
  exact hz
theorem sk9 {w w' : World} {r bp o1 o2 : Nat} {kd : Int} {s : Bool} {a : Option Addr} {l c : Nat} {ad : Option Addr} {n cp : Nat} {t : Bool} {b : Option Addr} {m d : Nat} {v1 v2 : Value} (y : AB w r kd s a l c ad n cp t b m d) (x1 : w.cell? ⟨bp, o1, none⟩ = some v1) (x2 : w.cell? ⟨bp, o2, none⟩ = some v2) (k : Below w.heap.size w w') :
    w'.cell? ⟨r, 3, none⟩ = some (.slice ad n cp) ∧ w'.cell? ⟨bp, o1, none⟩ = some v1 ∧ w'.cell? ⟨bp, o2, none⟩ = some v2 ∧ Below w.heap.size w w' :=
  ⟨(y.below k).c3, (k.cell (p := ⟨bp, o1, none⟩) (World.block_lt_of_cell? w ⟨bp, o1, none⟩ x1)).trans x1, (k.cell (p := ⟨bp, o2, none⟩) (World.block_lt_of_cell? w ⟨bp, o2, none⟩ x2)).trans x2, k⟩
theorem sk10 {w w' : World} {r bp o1 o2 : Nat} {kd : Int} {s : Bool} {a : Option Addr} {l c : Nat} {ad : Option Addr} {n cp : Nat} {t : Bool} {b : Option Addr} {m d : Nat} {v1 v2 : Value} (y : AB w r kd s a l c ad n cp t b m d) (x1 : w.cell? ⟨bp, o1, none⟩ = some v1) (x2 : w.cell? ⟨bp, o2, none⟩ = some v2) (k : Below w.heap.size w w') :
    w'.cell? ⟨r, 1, none⟩ = some (.bool s) ∧ w'.cell? ⟨r, 2, none⟩ = some (.slice a l c) ∧ w'.cell? ⟨r, 3, none⟩ = some (.slice ad n cp) ∧ w'.cell? ⟨bp, o1, none⟩ = some v1 ∧ w'.cell? ⟨bp, o2, none⟩ = some v2 ∧ Below w.heap.size w w' :=
  ⟨(y.below k).c1, (y.below k).c2, (y.below k).c3, (k.cell (p := ⟨bp, o1, none⟩) (World.block_lt_of_cell? w ⟨bp, o1, none⟩ x1)).trans x1, (k.cell (p := ⟨bp, o2, none⟩) (World.block_lt_of_cell? w ⟨bp, o2, none⟩ x2)).trans x2, k⟩
theorem Fit.short {a : Atm} (h : Fit a) : ((a.kind = 0 ∨ a.kind = 1) ∧ a.d = 0 ∧ a.ps = []) ∨ ((a.kind = 2 ∨ a.kind = 3 ∨ a.kind = 4) ∧ Std a.ps ∧ a.ps ≠ [] ∧ gcdL a.d.natAbs a.ps = 1 ∧ ∀ q ∈ a.ps, a.kind ≠ 2 → 0 < q.2 ∧ q.2 < a.d) := by
  rcases h with ⟨h1, h2, h3, -⟩ | ⟨h1, h2, h3, h4, h5⟩ | ⟨h1, h2, -⟩
  · exact .inl ⟨h1, h2, h3⟩
  · exact .inr ⟨.inl h1, h3, h4, by rw [h2]; exact h5, fun q _ h => absurd h1 h⟩
  · exact .inr ⟨.inr h1, h2.std, h2.some, h2.one, fun q hq _ => h2.rng q hq⟩
theorem Zn.nil {w : World} {s : Bool} {a : Option Addr} {l c : Nat} (h : Zn w s a l c 0) : l = 0 := by
  obtain ⟨n, ⟨zs, h1, h2, h3⟩, h4, -⟩ := h
  have hv : val zs = 0 := by cases s <;> simp [sg] at h4 <;> omega
  have hz := (canon_zero h2).1 hv
  have hl := h1.1
  rw [hz] at hl
  exact hl.symm

set_option maxRecDepth 100000 in
set_option maxHeartbeats 6400000 in
theorem atomShort_walk {w : World} {kd : Int} {sd : Bool} {ad : Option Addr} {ld cd : Nat} {ap : Option Addr} {np cp : Nat} {sk : Bool} {ak : Option Addr} {lk ck : Nat} {d k : Int} {ps : List (Int × Int)} {B : Nat}
    (hd : Zm w sd ad ld cd d) (hld : ld ≤ B) (hP : Pr w ap np ps B) (hk : Zm w sk ak lk ck k) (hlk : lk ≤ B) (hn : np ≤ 262144) (hB : B + np + 1 ≤ 4194000) (htab : Tab w) :
    Calls Tryz.prog 6 #[.agg #[.int .i64 kd, .bool sd, .slice ad ld cd, .slice ap np cp, .bool sk, .slice ak lk ck]] w fun x w' => x = .returned (.bool true) ∧ Below w.heap.size w w' := by
  go_enter Tryz.func6, Tryz.ntmps6
  go_wp2_with fail
  have x := AB.new w kd sd ad ld cd ap np cp sk ak lk ck
  have b0 := below_alloc w (.cells #[.int .i64 kd, .bool sd, .slice ad ld cd, .slice ap np cp, .bool sk, .slice ak lk ck] 29)
  replace hd := hd.below b0
  replace hP := hP.below b0
  replace hk := hk.below b0
  replace htab := htab.below b0
  generalize w.alloc (.cells #[.int .i64 kd, .bool sd, .slice ad ld cd, .slice ap np cp, .bool sk, .slice ak lk ck] 29) = wb at *
  generalize hp : w.heap.size = p at *
  replace b0 : Hid (Below w.heap.size w wb) := hp ▸ b0
  clear hp
  refine (awake6_n wb htab).mono ?_
  rintro e w1 ⟨rfl, k1⟩
  replace x := x.below k1
  replace hd := hd.below k1
  replace hP := hP.below k1
  replace hk := hk.below k1
  replace k1 := hide (grow_step k1 b0.out)
  clear b0 htab
  have u0 := x.c0
  have u1 := x.c1
  have u2 := x.c2
  have u3 := x.c3
  have u4 := x.c4
  have u5 := x.c5
  go_wp2_with fail
  refine (anorm_n hd hld hP hk hlk hn hB).mono ?_
  rintro e w2 ⟨qs, hS, hc, hA, k2⟩
  replace k2 := hide (grow_step k2 k1.out)
  clear u0 u1 u2 u3 u4 u5 x hd hP hk k1 hc
  cases hf : formA kd d qs k with
  | inr er =>
    rw [hf] at hA
    have her := formA_bad hf
    have he : _ = _ := hA
    subst he
    have y := AB.new w2 0 false none 0 0 none 0 0 false none 0 0
    have kf := hide (grow_step (below_alloc w2 (.cells #[.int .i64 0, .bool false, .slice none 0 0, .slice none 0 0, .bool false, .slice none 0 0] 29)) k2.out)
    clear hf hS hA k2
    rcases her with rfl | rfl
    · go_wp2
      go_ret
      exact ⟨rfl, kf.out⟩
    · go_wp2
      go_ret
      exact ⟨rfl, kf.out⟩
  | inl f =>
    rw [hf] at hA
    have hfit := formA_fit hS hf
    clear hf hS
    obtain ⟨fk, fd, fps, fkk⟩ := f
    obtain ⟨sd1, ad1, ld1, cd1, ap1, np1, cp1, sk1, ak1, lk1, ck1, rfl, hz1, hlz1, hPn1, hnp1, hk1, hlk1, -⟩ := hA
    dsimp only at hz1 hPn1 hk1
    have y := AB.new w2 fk sd1 ad1 ld1 cd1 ap1 np1 cp1 sk1 ak1 lk1 ck1
    have ka := below_alloc w2 (.cells #[.int .i64 fk, .bool sd1, .slice ad1 ld1 cd1, .slice ap1 np1 cp1, .bool sk1, .slice ak1 lk1 ck1] 29)
    replace hz1 := hz1.below ka
    replace hPn1 := hPn1.below ka
    replace hk1 := hk1.below ka
    replace k2 := hide (grow_step ka k2.out)
    clear ka
    rcases Fit.short hfit with ⟨hkind, hd0, hps0⟩ | ⟨hfk, hstd, hsome, hone, hrng⟩
    · dsimp only at hkind hd0 hps0
      subst hd0 hps0
      obtain rfl := hz1.nil
      obtain rfl : np1 = 0 := hPn1.1.symm
      clear hz1 hPn1 hk1 y
      rcases hkind with rfl | rfl
      · go_wp2
        go_ret
        exact ⟨rfl, k2.out⟩
      · go_wp2
        go_ret
        exact ⟨rfl, k2.out⟩
    · dsimp only at hfk hstd hsome hone hrng
      have i0 : (fk == 0) = false := by rw [beq_eq_false_iff_ne]; omega
      have i1 : (fk == 1) = false := by rw [beq_eq_false_iff_ne]; omega
      replace hrng := hide hrng
      replace hone := hide hone
      replace hstd := hide hstd
      replace hsome := hide hsome
      replace hfk := hide hfk
      clear hfit
      have u0 := y.c0
      have u1 := y.c1
      have u2 := y.c2
      go_wp2_with fail
      generalize w2.alloc (.cells #[.int .i64 fk, .bool sd1, .slice ad1 ld1 cd1, .slice ap1 np1 cp1, .bool sk1, .slice ak1 lk1 ck1] 29) = wn at *
      generalize w2.heap.size = bn at *
      refine (abs_n hz1.zm (by omega)).mono ?_
      rintro e w3 ⟨s3, a3, l3, c3, rfl, hg3, k3, hl3⟩
      replace y := y.below k3
      replace hz1 := hz1.below k3
      replace hPn1 := hPn1.below k3
      replace hk1 := hk1.below k3
      replace k2 := hide (grow_step k3 k2.out)
      clear k3 u0 u1 u2
      have zg := zb_new w3 s3 a3 l3 c3
      have kz := below_alloc w3 (.cells #[.bool s3, .slice a3 l3 c3] 24)
      replace hg3 := hg3.below kz
      have HH := hide (And.intro zg (And.intro kz hg3))
      clear zg kz hg3
      go_wp2_with fail
      obtain ⟨zg, kz, hg3⟩ := HH.out
      clear HH
      generalize w3.alloc (.cells #[.bool s3, .slice a3 l3 c3] 24) = w4 at *
      generalize hbg : w3.heap.size = bg at *
      replace hbg := hide hbg
      go_loopw [7] (fun i wr => ∃ (t : Nat) (sg : Bool) (ag : Option Addr) (lg cg : Nat), t ≤ np1 ∧ i = .int .i64 t ∧ Hid (ZB wr bg sg ag lg cg) ∧ Hid (Zn wr sg ag lg cg ((gcdL fd.natAbs (fps.take t) : Nat) : Int)) ∧ lg ≤ B + np + 17 ∧ Hid (Below bg w3 wr)) (fun i _ => np1 - (intOf i).toNat)
      case atStart => exact ⟨0, s3, a3, l3, c3, Nat.zero_le _, rfl, zg, hg3, by omega, kz⟩
      case round =>
        obtain ⟨t, sg, ag, lg, cg, ht, rfl, zgr, hgr, hlg, kr⟩ := hrel
        have kr3 : Hid (Below w3.heap.size w3 wr) := (hbg.out.symm ▸ kr.out : Below w3.heap.size w3 wr)
        have yr := y.below kr3.out
        have v3 := yr.c3
        by_cases htn : t < np1
        · obtain ⟨hlen, hPP⟩ := hPn1
          rcases hPP with h0 | ⟨bp, op, rfl, hbp, hPP⟩
          · omega
          obtain ⟨sc, ac, lc, cc, x0, x1, x2, hzc3, hlc, -⟩ := hPP t (by omega)
          have e1 := (kr3.out.cell (p := ⟨bp, op + t * 3 + 1, none⟩) hbp).trans x1
          have e2 := (kr3.out.cell (p := ⟨bp, op + t * 3 + 2, none⟩) hbp).trans x2
          have hstep : Hid (gcdL fd.natAbs (fps.take (t + 1)) = Nat.gcd (gcdL fd.natAbs (fps.take t)) (fps[t]'(by omega)).2.natAbs) := (show _ = _ by rw [List.take_succ_eq_append_getElem (l := fps) (i := t) (by omega)]; unfold gcdL; rw [List.foldl_append]; rfl)
          have hrq : Hid (fk ≠ 2 → 0 < (fps[t]'(by omega)).2 ∧ (fps[t]'(by omega)).2 < fd) := hrng.out _ (List.getElem_mem _)
          have hnz : Hid ((fps[t]'(by omega)).2 ≠ 0) := hstd.out.2 _ (List.getElem_mem _)
          have hbge : w3.heap.size ≤ bg := Nat.le_of_eq hbg.out
          generalize (fps[t]'(by omega)) = pt at *
          obtain ⟨pv, pc⟩ := pt
          dsimp only at *
          generalize gcdL fd.natAbs (fps.take t) = gt at *
          have g0 := zgr.out.c0
          have g1 := zgr.out.c1
          go_wp2_with fail
          clear g0 g1 e1 e2 v3
          refine Code.wp_mono (Q := fun e a' W' => e = .normal ∧ ∃ bR sN aN lN cN, a' = ⟨List.toArray ((Value.agg #[Value.int IntKind.i64 kd, Value.bool sd, Value.slice ad ld cd, Value.slice ap np cp, Value.bool sk, Value.slice ak lk ck] : Value) :: (Value.pointer (some { block := p, off := 0 }) : Value) :: (u2 : Value) :: (Value.bool true : Value) :: (Value.pointer (some { block := bn, off := 0 }) : Value) :: (Value.int IntKind.i64 0 : Value) :: (Value.pointer (some { block := bg, off := 0 }) : Value) :: (Value.int IntKind.i64 ↑t : Value) :: (u8 : Value) :: (u9 : Value) :: (undef : Value) :: (undef : Value) :: (Value.bool true : Value) :: (Value.tuple #[Value.agg #[Value.int IntKind.i64 fk, Value.bool sd1, Value.slice ad1 ld1 cd1, Value.slice (some { block := bp, off := op }) np1 cp1, Value.bool sk1, Value.slice ak1 lk1 ck1], Value.int IntKind.i64 0] : Value) :: (Value.agg #[Value.int IntKind.i64 kd, Value.bool sd, Value.slice ad ld cd, Value.slice ap np cp, Value.bool sk, Value.slice ak lk ck] : Value) :: (Value.tuple #[Value.agg #[Value.int IntKind.i64 fk, Value.bool sd1, Value.slice ad1 ld1 cd1, Value.slice (some { block := bp, off := op }) np1 cp1, Value.bool sk1, Value.slice ak1 lk1 ck1], Value.int IntKind.i64 0] : Value) :: (Value.agg #[Value.int IntKind.i64 fk, Value.bool sd1, Value.slice ad1 ld1 cd1, Value.slice (some { block := bp, off := op }) np1 cp1, Value.bool sk1, Value.slice ak1 lk1 ck1] : Value) :: (Value.int IntKind.i64 0 : Value) :: (Value.int IntKind.i64 0 : Value) :: (Value.bool false : Value) :: (Value.bool false : Value) :: (Value.pointer (some { block := bn, off := 0 }) : Value) :: (Value.int IntKind.i64 fk : Value) :: (Value.bool false : Value) :: (Value.bool false : Value) :: (Value.bool false : Value) :: (Value.pointer (some { block := bn, off := 0 }) : Value) :: (Value.int IntKind.i64 fk : Value) :: (Value.bool false : Value) :: (Value.bool false : Value) :: (undef : Value) :: (undef : Value) :: (undef : Value) :: (undef : Value) :: (undef : Value) :: (undef : Value) :: (undef : Value) :: (undef : Value) :: (undef : Value) :: (undef : Value) :: (undef : Value) :: (undef : Value) :: (undef : Value) :: (undef : Value) :: (undef : Value) :: (Value.pointer (some { block := bn, off := 1 }) : Value) :: (Value.agg #[Value.bool sd1, Value.slice ad1 ld1 cd1] : Value) :: (Value.agg #[Value.bool s3, Value.slice a3 l3 c3] : Value) :: (Value.int IntKind.i64 ↑t : Value) :: (Value.pointer (some { block := bn, off := 3 }) : Value) :: (Value.pointer (some { block := bn, off := 3 }) : Value) :: (Value.slice (some { block := bp, off := op }) np1 cp1 : Value) :: (Value.int IntKind.i64 ↑np1 : Value) :: (Value.bool true : Value) :: (u54 : Value) :: (u55 : Value) :: (.agg #[.bool sg, .slice ag lg cg] : Value) :: (.pointer (some ⟨bn, 3, none⟩) : Value) :: (.pointer (some ⟨bn, 3, none⟩) : Value) :: (.slice (some ⟨bp, op, none⟩) np1 cp1 : Value) :: (.int .i64 t : Value) :: (.pointer (some ⟨bp, op + t * 3, none⟩) : Value) :: (.pointer (some ⟨bp, op + t * 3 + 1, none⟩) : Value) :: (.agg #[.bool sc, .slice ac lc cc] : Value) :: (.slice (some ⟨bR, 0, none⟩) 2 2 : Value) :: (.agg #[.bool sN, .slice aN lN cN] : Value) :: (u66 : Value) :: (u67 : Value) :: (u68 : Value) :: (u69 : Value) :: (u70 : Value) :: (u71 : Value) :: (u72 : Value) :: (u73 : Value) :: (u74 : Value) :: (u75 : Value) :: (u76 : Value) :: (u77 : Value) :: (u78 : Value) :: (u79 : Value) :: (u80 : Value) :: (u81 : Value) :: (u82 : Value) :: (u83 : Value) :: (u84 : Value) :: (u85 : Value) :: (u86 : Value) :: (u87 : Value) :: (u88 : Value) :: (u89 : Value) :: (u90 : Value) :: (u91 : Value) :: (u92 : Value) :: (u93 : Value) :: (u94 : Value) :: (undef : Value) :: (undef : Value) :: (undef : Value) :: (undef : Value) :: (undef : Value) :: (undef : Value) :: (undef : Value) :: (undef : Value) :: (undef : Value) :: (undef : Value) :: (undef : Value) :: (undef : Value) :: (undef : Value) :: (undef : Value) :: (undef : Value) :: (undef : Value) :: (undef : Value) :: (undef : Value) :: (undef : Value) :: (undef : Value) :: (undef : Value) :: (undef : Value) :: (undef : Value) :: (undef : Value) :: (undef : Value) :: (undef : Value) :: []), []⟩ ∧ ZB W' bg sN aN lN cN ∧ Zn W' sN aN lN cN ((Nat.gcd gt pc.natAbs : Nat) : Int) ∧ Below w3.heap.size w3 W') ?_ ?_
          rotate_left
          · refine wp_region_held_drew (S := (fun w' => w'.cell? ⟨bn, 3, none⟩ = some (.slice (some ⟨bp, op, none⟩) np1 cp1) ∧ w'.cell? ⟨bp, op + t * 3 + 1, none⟩ = some (.bool sc) ∧ w'.cell? ⟨bp, op + t * 3 + 2, none⟩ = some (.slice ac lc cc) ∧ Below w3.heap.size w3 w')) (by kernel_rfl) (sk9 y x1 x2 (grow_drew kr3.out)) (fun hHeld => ?_)
            show wpAnyH _ _ _ _ _ 11 _ _ _
            have kW := grow_drew kr3.out
            have zQ := zgr.out.below (grow_drew (Below.refl wr.heap.size wr))
            have hQ := hgr.out.below (grow_drew (Below.refl wr.heap.size wr))
            generalize wr.drew = wQ at *
            refine wpAnyH_take (i := 1) (oi := ⟨some 57, _, _, _, _, _⟩) (v := ?_) rfl (by kernel_rfl) (by kernel_rfl) (by kernel_rfl) (fun _ _ _ h => nomatch h.1) (Or.inl ⟨by rfl, ?_⟩) (by assumption) ?_
            rotate_left
            · intro wq hSw; (try dsimp only at hSw); go_simp; (try with_reducible rfl)
            (try simp only [Act.put, List.setIfInBounds_toArray, List.set_cons_zero, List.set_cons_succ])
            refine wpAnyH_take (i := 2) (oi := ⟨some 58, _, _, _, _, _⟩) (v := ?_) rfl (by kernel_rfl) (by kernel_rfl) (by kernel_rfl) (fun _ _ _ h => nomatch h.1) (Or.inl ⟨by rfl, ?_⟩) (by assumption) ?_
            rotate_left
            · intro wq hSw; (try dsimp only at hSw); go_simp; (try with_reducible rfl)
            (try simp only [Act.put, List.setIfInBounds_toArray, List.set_cons_zero, List.set_cons_succ])
            refine wpAnyH_take (i := 3) (oi := ⟨some 59, _, _, _, _, _⟩) (v := ?_) rfl (by kernel_rfl) (by kernel_rfl) (by kernel_rfl) (fun _ _ _ h => nomatch h.1) (Or.inl ⟨by rfl, ?_⟩) (by assumption) ?_
            rotate_left
            · intro wq hSw; (try dsimp only at hSw); go_simp; (try with_reducible rfl)
            (try simp only [Act.put, List.setIfInBounds_toArray, List.set_cons_zero, List.set_cons_succ])
            refine wpAnyH_take (i := 4) (oi := ⟨some 60, _, _, _, _, _⟩) (v := ?_) rfl (by kernel_rfl) (by kernel_rfl) (by kernel_rfl) (fun _ _ _ h => nomatch h.1) (Or.inl ⟨by rfl, ?_⟩) (by assumption) ?_
            rotate_left
            · intro wq hSw; (try dsimp only at hSw); go_simp; (try with_reducible rfl)
            (try simp only [Act.put, List.setIfInBounds_toArray, List.set_cons_zero, List.set_cons_succ])
            refine wpAnyH_take (i := 5) (oi := ⟨some 61, _, _, _, _, _⟩) (v := ?_) rfl (by kernel_rfl) (by kernel_rfl) (by kernel_rfl) (fun _ _ _ h => nomatch h.1) (Or.inl ⟨by rfl, ?_⟩) (by assumption) ?_
            rotate_left
            · intro wq hSw; (try dsimp only at hSw); go_simp; (try with_reducible rfl)
            (try simp only [Act.put, List.setIfInBounds_toArray, List.set_cons_zero, List.set_cons_succ])
            refine wpAnyH_take (i := 6) (oi := ⟨some 62, _, _, _, _, _⟩) (v := ?_) rfl (by kernel_rfl) (by kernel_rfl) (by kernel_rfl) (fun _ _ _ h => nomatch h.1) (Or.inl ⟨by rfl, ?_⟩) (by assumption) ?_
            rotate_left
            · intro wq hSw; (try dsimp only at hSw); go_simp; (try with_reducible rfl)
            (try simp only [Act.put, List.setIfInBounds_toArray, List.set_cons_zero, List.set_cons_succ])
            refine wpAnyH_take (i := 7) (oi := ⟨some 63, _, _, _, _, _⟩) (v := ?_) rfl (by kernel_rfl) (by kernel_rfl) (by kernel_rfl) (fun _ _ _ h => nomatch h.1) (Or.inl ⟨by rfl, ?_⟩) (by assumption) ?_
            rotate_left
            · intro wq hSw; (try dsimp only at hSw); go_simp; (try with_reducible rfl)
            (try simp only [Act.put, List.setIfInBounds_toArray, List.set_cons_zero, List.set_cons_succ])
            refine wpAnyH_ready (rs := [0]) (by kernel_rfl) (by simp) ?_
            refine AllReadyH.cons (o := ⟨some 56, _, _, _, _, _⟩) rfl (fun K hK => ?_) ?_
            · skip
              have f0 := zQ.c0
              have f1 := zQ.c1
              go_simp
              refine hK.out _ _ ?_ ?_
              · (try dsimp only); exact sk9 y x1 x2 kW
              clear hK K hHeld; intro hHeld
              (try simp only [Act.put, List.setIfInBounds_toArray, List.set_cons_zero, List.set_cons_succ])
              refine wpAnyH_ready (rs := [8]) (by kernel_rfl) (by simp) ?_
              refine AllReadyH.cons (o := ⟨some 64, _, _, _, _, _⟩) rfl (fun K hK => ?_) ?_
              · have kL := below_alloc (wQ) (.cells #[.bool sg, .slice ag lg cg, .bool sc, .slice ac lc cc] 24)
                have zQ := zQ.below kL
                have hQ := hQ.below kL
                have zR : G2 ((wQ).alloc (.cells #[.bool sg, .slice ag lg cg, .bool sc, .slice ac lc cc] 24)) (wQ.heap.size) sg ag lg cg sc ac lc cc := heap_alloc_new _ _
                have hbR : w3.heap.size ≤ wQ.heap.size := kW.size
                have kW := grow_step kL kW
                go_simp
                refine hK.out _ _ ?_ ?_
                · (try dsimp only); exact sk9 y x1 x2 kW
                clear hK K hHeld; intro hHeld
                (try simp only [Act.put, List.setIfInBounds_toArray, List.set_cons_zero, List.set_cons_succ])
                generalize (wQ).alloc (.cells #[.bool sg, .slice ag lg cg, .bool sc, .slice ac lc cc] 24) = wLzR at *
                refine wpAnyH_ready (rs := [9]) (by kernel_rfl) (by simp) ?_
                refine AllReadyH.cons (o := ⟨some 65, _, _, _, _, _⟩) rfl (fun K hK => ?_) ?_
                · go_simp
                  go_at_call 17; refine Calls.mono (gcd2_n zR hQ.zm (hzc3.zm.below kW) (by omega) (by omega)) ?_; rintro e wB ⟨sN, aN, lN, cN, rfl, hN, kB⟩; rw [Int.natAbs_natCast] at hN
                  have zQ := zQ.below kB
                  have hQ := hQ.below kB
                  have zR := zR.below kB
                  have kW := grow_step kB kW
                  (try go_wp2_with fail)
                  refine hK.out _ _ ?_ ?_
                  · (try dsimp only); exact sk9 y x1 x2 kW
                  clear hK K hHeld; intro hHeld
                  (try simp only [Act.put, List.setIfInBounds_toArray, List.set_cons_zero, List.set_cons_succ])
                  refine wpAnyH_ready (rs := [10]) (by kernel_rfl) (by simp) ?_
                  refine AllReadyH.cons (o := ⟨none, _, _, _, _, _⟩) rfl (fun K hK => ?_) ?_
                  · skip
                    have f0 := zQ.c0
                    have f1 := zQ.c1
                    have f2 := zQ.f 0
                    have f3 := zQ.f 1
                    go_simp
                    have hN := zb_zn zQ hN sN aN lN cN
                    have zQ := zb_fin zQ sN aN lN cN
                    have kW := (kW.setCell (p := ⟨bg, 0, none⟩) hbge (.bool sN)).setCell (p := ⟨bg, 1, none⟩) hbge (.slice aN lN cN)
                    refine hK.out _ _ ?_ ?_
                    · (try dsimp only); exact sk9 y x1 x2 kW
                    clear hK K hHeld; intro hHeld
                    (try simp only [Act.put, List.setIfInBounds_toArray, List.set_cons_zero, List.set_cons_succ])
                    refine wpAnyH_done (by kernel_rfl) ?_ _
                    exact ⟨rfl, _, sN, aN, lN, cN, rfl, zQ, hN, kW⟩
                  exact AllReadyH.nil
                exact AllReadyH.nil
              exact AllReadyH.nil
            exact AllReadyH.nil
          rintro e a' W9 ⟨rfl, bR, sN, aN, lN, cN, rfl, zN, hN, kN⟩
          have hN1 : lN ≤ lc := hN.len_le hzc3.zm.nm (by
            rw [Int.natAbs_natCast]
            exact_mod_cast Nat.gcd_le_right _ (Int.natAbs_pos.2 hnz.out))
          have yN := y.below kN
          have x1N := (kN.cell (p := ⟨bp, op + t * 3 + 1, none⟩) hbp).trans x1
          have x2N := (kN.cell (p := ⟨bp, op + t * 3 + 2, none⟩) hbp).trans x2
          have v3 := yN.c3
          have hzcN := hzc3.below kN
          go_wp2_with fail
          refine (zsign_n hzcN.zm (by omega)).mono ?_
          rintro e WA ⟨rfl, kA⟩
          have kW := grow_step kA kN
          have yA := y.below kW
          have x1A := (kW.cell (p := ⟨bp, op + t * 3 + 1, none⟩) hbp).trans x1
          have x2A := (kW.cell (p := ⟨bp, op + t * 3 + 2, none⟩) hbp).trans x2
          have zA := zN.below kA
          have hA := hN.below kA
          have hzA := hzc3.below kW
          have hdA := hz1.below kW
          clear v3 x1N x2N kA kN yN zN hN hzcN
          have v3 := yA.c3
          generalize hcs : cmpI pc 0 = cs at *
          replace hcs := hide hcs
          go_wp2_with fail
          obtain ⟨cm, hcm⟩ : ∃ cm, Hid (cmpI pc fd = cm) := ⟨_, rfl⟩
          go_region_held3 (fun w' => w'.cell? ⟨bn, 1, none⟩ = some (.bool sd1) ∧ w'.cell? ⟨bn, 2, none⟩ = some (.slice ad1 ld1 cd1) ∧ w'.cell? ⟨bn, 3, none⟩ = some (.slice (some ⟨bp, op, none⟩) np1 cp1) ∧ w'.cell? ⟨bp, op + t * 3 + 1, none⟩ = some (.bool sc) ∧ w'.cell? ⟨bp, op + t * 3 + 2, none⟩ = some (.slice ac lc cc) ∧ Below WA.heap.size WA w')
            ((refine sk10 yA x1A x2A ?_; (repeat' (first | with_reducible exact Below.refl _ _ | with_reducible assumption | with_reducible refine grow_step (by with_reducible assumption) ?_ | with_reducible refine grow_drew ?_ | with_reducible refine grow_alloc ?_ _ | with_reducible refine grow_drewN ?_ _))))
            ((go_at_call 19; with_reducible refine (zcmp_n (Zn.zm (Zn.below hzA (by (repeat' (first | with_reducible exact Below.refl _ _ | with_reducible assumption | with_reducible refine grow_step (by with_reducible assumption) ?_ | with_reducible refine grow_drew ?_ | with_reducible refine grow_alloc ?_ _ | with_reducible refine grow_drewN ?_ _))))) (Zn.zm (Zn.below hdA (by (repeat' (first | with_reducible exact Below.refl _ _ | with_reducible assumption | with_reducible refine grow_step (by with_reducible assumption) ?_ | with_reducible refine grow_drew ?_ | with_reducible refine grow_alloc ?_ _ | with_reducible refine grow_drewN ?_ _))))) (by omega) (by omega)).mono ?_; rintro e WB ⟨rfl, hgB⟩; rw [hcm.out]))
          rename_i hH
          have kH := hH.2.2.2.2.2
          have yB := yA.below kH
          have zB := zA.below kH
          have hB := hA.below kH
          have kF := hide (grow_step kH kW)
          clear hH kH hgB hzA hdA yA zA hA x1A x2A v3 kW
          have v0 := yB.c0
          have hfin : Hid (Zn WB sN aN lN cN ((gcdL fd.natAbs (fps.take (t + 1)) : Nat) : Int)) := by rw [hstep.out]; exact hB
          have kF2 : Hid (Below bg w3 WB) := (hbg.out ▸ kF.out : Below bg w3 WB)
          by_cases hf2 : fk = 2
          · subst hf2
            go_wp2
            go_round
            case rel => exact ⟨t + 1, sN, aN, lN, cN, by omega, by go_num, zB, hfin.out, by omega, kF2.out⟩
            case measure => simp [intOf]; omega
          · have i2 : (fk == 2) = false := by rw [beq_eq_false_iff_ne]; exact hf2
            obtain ⟨r1, r2⟩ := hrq.out hf2
            obtain rfl : cs = 1 := by rw [← hcs.out]; exact cmpI_gt r1
            obtain rfl : cm = -1 := by rw [← hcm.out]; exact cmpI_lt r2
            go_wp2
            all_goals first
              | exact absurd rfl hf2
              | exact ⟨⟨t + 1, sN, aN, lN, cN, by omega, by go_num, zB, hfin.out, by omega, kF2.out⟩, by simp [intOf]; omega⟩
        · obtain rfl : t = np1 := by omega
          have hlen : fps.length = t := hPn1.1
          have hg1 : Hid (((gcdL fd.natAbs (fps.take t) : Nat) : Int) = 1) := (show _ = _ by rw [List.take_of_length_le (by omega), hone.out]; rfl)
          have htpos : 0 < t := by
            rcases Nat.eq_zero_or_pos t with h0 | h0
            · exact absurd (List.length_eq_zero_iff.1 (hlen.trans h0)) hsome.out
            · exact h0
          rw [hg1.out] at hgr
          have g0 := zgr.out.c0
          have g1 := zgr.out.c1
          have zgo := zgr.out
          have hgo := hgr.out
          have hPr := hPn1.below kr3.out
          have hkr := hk1.below kr3.out
          have kT := hide (grow_step kr3.out k2.out)
          clear hPn1 hk1 hz1
          go_wp2_with fail
          go_region_held3 (fun w' => w'.cell? ⟨bg, 0, none⟩ = some (.bool sg) ∧ w'.cell? ⟨bg, 1, none⟩ = some (.slice ag lg cg) ∧ Below wr.heap.size wr w')
            ((refine zq2 zgo ?_; (repeat' (first | with_reducible exact Below.refl _ _ | with_reducible assumption | with_reducible refine grow_step (by with_reducible assumption) ?_ | with_reducible refine grow_drew ?_ | with_reducible refine grow_alloc ?_ _ | with_reducible refine grow_drewN ?_ _))))
            (first | (go_at_call 20; with_reducible refine (zof_n 1 (by decide) (by decide) _).mono ?_; rintro e w5 ⟨s5, a5, l5, c5, rfl, z5, hg5, hl5⟩) | (go_at_call 19; with_reducible refine (zcmp_n (Zn.zm (Zn.below hgo (by (repeat' (first | with_reducible exact Below.refl _ _ | with_reducible assumption | with_reducible refine grow_step (by with_reducible assumption) ?_ | with_reducible refine grow_drew ?_ | with_reducible refine grow_alloc ?_ _ | with_reducible refine grow_drewN ?_ _))))) (Zn.zm (Zn.below z5 (by (repeat' (first | with_reducible exact Below.refl _ _ | with_reducible assumption | with_reducible refine grow_step (by with_reducible assumption) ?_ | with_reducible refine grow_drew ?_ | with_reducible refine grow_alloc ?_ _ | with_reducible refine grow_drewN ?_ _))))) (by omega) (by omega)).mono ?_; rintro e w6 ⟨rfl, hg6⟩; rw [show cmpI 1 1 = 0 from rfl]))
          rename_i hH
          have kH := hH.2.2
          replace yr := yr.below kH
          replace hPr := hPr.below kH
          replace hkr := hkr.below kH
          replace kT := hide (grow_step kH kT.out)
          clear hH hg5 hg6 kH zgo hgo g0 g1 v3 zgr hgr
          have v3 := yr.c3
          have v4 := yr.c4
          have v5 := yr.c5
          obtain ⟨X, hX, hVX⟩ := pn_px hPr hstd.out
          obtain ⟨xs, hrd, hst, -⟩ := hkr.stands
          go_wp2_with fail
          refine (tvalid_n hX hrd (by omega) (by omega)).mono ?_
          rintro e w7 ⟨b7, rfl, hb7, k7⟩
          obtain rfl := hb7.2 ⟨hVX, hst⟩
          replace yr := yr.below k7
          replace hX := hX.below k7
          replace hrd := hrd.below k7
          replace kT := hide (grow_step k7 kT.out)
          clear k7 hb7 v3 v4 v5 hPr hkr
          have v3 := yr.c3
          have v4 := yr.c4
          have v5 := yr.c5
          go_wp2_with fail
          refine (rvalid5_n hX hrd hlk1 (by omega) (by omega)).mono ?_
          rintro e w8 ⟨b8, rfl, hb8, k8⟩
          obtain rfl := hb8.2 ⟨hVX, hst⟩
          replace yr := yr.below k8
          replace kT := hide (grow_step k8 kT.out)
          clear k8 hb8 v3 v4 v5 hX hrd
          have v3 := yr.c3
          go_wp2
          go_ret
          exact ⟨rfl, kT.out⟩
end Go.Proofs.YtofhodimmeiahaaGreatDoor
