/-
 The law CensusFinds: its walk.
-/
import Derived.Test.YtmiannlcfommpaaGreatCfi21
import Derived.Test.YtmiannlcfommpaaGreatCfi09
import Derived.Test.YtmiannlcfommpaaGreatCfi20
import Derived.Lib.BufferMore
namespace Go.Proofs.YtmiannlcfommpaaGreat
open Go.RowKit Go.Sort
namespace Pd

theorem fst_z {v w : World} {b : Nat} {s : Bool} {a : Option Addr} {l c : Nat} (k : Below v.heap.size v w) (hb : v.heap.size ≤ b) (h : ZB w b s a l c) (s' : Bool) (a' : Option Addr) (l' c' : Nat) : ∃ w8, Hid ((w.setCell ⟨b, 0, none⟩ (.bool s')).setCell ⟨b, 1, none⟩ (.slice a' l' c') = w8) ∧ ZB w8 b s' a' l' c' ∧ Below v.heap.size v w8 ∧ (∀ s1 ad len cap z, Zn w s1 ad len cap z → Zn w8 s1 ad len cap z) ∧ ∀ b2 s2 a2 l2 c2, b2 ≠ b → ZB w b2 s2 a2 l2 c2 → ZB w8 b2 s2 a2 l2 c2 :=
 ⟨_, rfl, zb_fin h s' a' l' c', (k.setCell (p := ⟨b, 0, none⟩) hb (.bool s')).setCell (p := ⟨b, 1, none⟩) hb (.slice a' l' c'), fun _ _ _ _ _ hz => zb_zn h hz _ _ _ _, fun _ _ _ _ _ hne hz => hz.only (only2 _ _ _ _) hne⟩
theorem cmpI_np {a b : Int} (h : a ≤ b) : cmpI a b ≤ 0 := by unfold cmpI; split <;> (try split) <;> omega
theorem cmpI_nn {a b : Int} (h : b ≤ a) : 0 ≤ cmpI a b := by unfold cmpI; split <;> (try split) <;> omega
/-- what Next and Last answer, in one form -/
def Nx (w' : World) (f : Int → Bool) (x d : Int) (B : Nat) (z : ZV) (b : Bool) : Prop :=
 (b = true → ∃ v, d * x ≤ d * v ∧ (∀ u, d * x ≤ d * u → d * u < d * v → f u = false) ∧ f v = true ∧ Zn w' z.s z.a z.l z.c v ∧ z.l ≤ B) ∧ (b = false → ∀ u, d * x ≤ d * u → f u = false)
theorem nx_one {w' : World} {en : Ending} {f : Int → Bool} {x d : Int} {B : Nat} (h : Nst w' en f x d B) : ∃ (z : ZV) (b : Bool), en = .returned (.tuple #[.agg #[.bool z.s, .slice z.a z.l z.c], .bool b]) ∧ Nx w' f x d B z b := by
 rcases h with ⟨v, z, h1, h2, h3, h4, h5, h6⟩ | ⟨h1, h2⟩
 ·exact ⟨z, true, h4, ⟨fun _ => ⟨v, h1, h2, h3, h5, h6⟩, fun e => (by cases e)⟩⟩
 ·exact ⟨⟨false, none, 0, 0⟩, false, h2, ⟨fun e => (by cases e), fun _ => h1⟩⟩
theorem Nx.below {w w' : World} {f : Int → Bool} {x d : Int} {B : Nat} {z : ZV} {b : Bool} (h : Nx w f x d B z b) (k : Below w.heap.size w w') : Nx w' f x d B z b :=
 ⟨fun e => let ⟨v, h1, h2, h3, h4, h5⟩ := h.1 e; ⟨v, h1, h2, h3, h4.below k, h5⟩, h.2⟩
set_option maxRecDepth 100000 in
set_option maxHeartbeats 12800000 in
theorem censusFinds_walk {w : World} {la : Option Addr} {ln lc : Nat} {R0 : List MkD} {k : Int} {za zb zc : ZV} {x far : Int} (hR0 : MLs w la ln R0) (hn : ln ≤ 1048576) (hk : Iw k) (ha : Zm w za.s za.a za.l za.c x) (hal : za.l ≤ 1048576) (hb : Zm w zb.s zb.a zb.l zb.c far) (hbl : zb.l ≤ 1048576) :
  Calls Tryz.prog 6 #[.slice la ln lc, .agg #[.int .i64 k, .bool za.s, .slice za.a za.l za.c, .bool zb.s, .slice zb.a zb.l zb.c, .bool zc.s, .slice zc.a zc.l zc.c]] w fun e w' => e = .returned (.bool true) ∧ Below w.heap.size w w' := by
 have b0 := below_alloc w (.cells #[.int .i64 k, .bool za.s, .slice za.a za.l za.c, .bool zb.s, .slice zb.a zb.l zb.c, .bool zc.s, .slice zc.a zc.l zc.c] 49)
 have y0 := heap_alloc_new w (.cells #[.int .i64 k, .bool za.s, .slice za.a za.l za.c, .bool zb.s, .slice zb.a zb.l zb.c, .bool zc.s, .slice zc.a zc.l zc.c] 49)
 obtain ⟨k0, k1⟩ := hk
 replace hR0 := hide (hR0.below b0)
 replace ha := hide (ha.below b0)
 replace hb := hide (hb.below b0)
 have q0 := cell_of_row _ _ 0 _ _ (0, 0) y0
 have q1 := cell_of_row _ _ 1 _ _ (0, 0) y0
 have q2 := cell_of_row _ _ 2 _ _ (0, 0) y0
 have q3 := cell_of_row _ _ 3 _ _ (0, 0) y0
 have q4 := cell_of_row _ _ 4 _ _ (0, 0) y0
 have hbt : w.heap.size < (w.alloc (.cells #[.int .i64 k, .bool za.s, .slice za.a za.l za.c, .bool zb.s, .slice zb.a zb.l zb.c, .bool zc.s, .slice zc.a zc.l zc.c] 49)).heap.size := by simp
 replace b0 := hide b0
 clear y0
 go_enter Tryz.func6, Tryz.ntmps6
 go_upto_region 1 with (fail)
 generalize w.alloc (.cells #[.int .i64 k, .bool za.s, .slice za.a za.l za.c, .bool zb.s, .slice zb.a zb.l zb.c, .bool zc.s, .slice zc.a zc.l zc.c] 49) = w0 at *
 obtain ⟨bt, hbw⟩ : ∃ bt, w.heap.size = bt := ⟨_, rfl⟩
 rw [hbw] at q0 q1 q2 q3 q4 hbt ⊢
 replace hbw := hide hbw
 go_cut [5, 6, 7] (fun v5 v6 v7 wc => ∃ (b6 b7 : Nat), v5 = .int .i64 k ∧ v6 = .pointer (some ⟨b6, 0, none⟩) ∧ v7 = .pointer (some ⟨b7, 0, none⟩) ∧ Hid (ZB wc b6 za.s za.a za.l za.c) ∧ Hid (ZB wc b7 zb.s zb.a zb.l zb.c) ∧ Hid (Below w0.heap.size w0 wc))
 case first =>
  refine wp_region_held_drew (S := (fun w' => w'.cell? ⟨bt, 0, none⟩ = some (.int .i64 k) ∧ w'.cell? ⟨bt, 1, none⟩ = some (.bool za.s) ∧ w'.cell? ⟨bt, 2, none⟩ = some (.slice za.a za.l za.c) ∧ w'.cell? ⟨bt, 3, none⟩ = some (.bool zb.s) ∧ w'.cell? ⟨bt, 4, none⟩ = some (.slice zb.a zb.l zb.c))) (by kernel_rfl) (⟨(Below.cell (p := ⟨bt, 0, none⟩) (grow_drew (Below.refl _ _)) hbt).trans q0, (Below.cell (p := ⟨bt, 1, none⟩) (grow_drew (Below.refl _ _)) hbt).trans q1, (Below.cell (p := ⟨bt, 2, none⟩) (grow_drew (Below.refl _ _)) hbt).trans q2, (Below.cell (p := ⟨bt, 3, none⟩) (grow_drew (Below.refl _ _)) hbt).trans q3, (Below.cell (p := ⟨bt, 4, none⟩) (grow_drew (Below.refl _ _)) hbt).trans q4⟩) (fun hHeld => ?_)
  show wpAnyH _ _ _ _ _ 11 _ _ _
  have kW := grow_drew (Below.refl w0.heap.size w0)
  generalize w0.drew = wQ at *
  repeat' first
   | with_reducible exact AllReadyH.nil
   | (
    refine wpAnyH_take (i := 0) (oi := ⟨some 21, _, _, _, _, _⟩) (v := ?_) rfl (by decide +kernel) (by decide +kernel) (by decide +kernel) (fun _ _ _ h => h) (Or.inl ⟨by rfl, ?_⟩) (by assumption) ?_
    rotate_left
    ·intro wq hSw; (try dsimp only at hSw); go_simp; (try with_reducible rfl)
    (try simp only [Act.put, List.setIfInBounds_toArray, List.set_cons_zero, List.set_cons_succ]))
   | (
    refine wpAnyH_take (i := 1) (oi := ⟨some 22, _, _, _, _, _⟩) (v := ?_) rfl (by decide +kernel) (by decide +kernel) (by decide +kernel) (fun _ _ _ h => h) (Or.inl ⟨by rfl, ?_⟩) (by assumption) ?_
    rotate_left
    ·intro wq hSw; (try dsimp only at hSw); go_simp; (try with_reducible rfl)
    (try simp only [Act.put, List.setIfInBounds_toArray, List.set_cons_zero, List.set_cons_succ]))
   | (
    refine wpAnyH_take (i := 2) (oi := ⟨some 23, _, _, _, _, _⟩) (v := ?_) rfl (by decide +kernel) (by decide +kernel) (by decide +kernel) (fun _ _ _ h => h) (Or.inl ⟨by rfl, ?_⟩) (by assumption) ?_
    rotate_left
    ·intro wq hSw; (try dsimp only at hSw); go_simp; (try with_reducible rfl)
    (try simp only [Act.put, List.setIfInBounds_toArray, List.set_cons_zero, List.set_cons_succ]))
   | (
    refine wpAnyH_take (i := 3) (oi := ⟨some 24, _, _, _, _, _⟩) (v := ?_) rfl (by decide +kernel) (by decide +kernel) (by decide +kernel) (fun _ _ _ h => h) (Or.inl ⟨by rfl, ?_⟩) (by assumption) ?_
    rotate_left
    ·intro wq hSw; (try dsimp only at hSw); go_simp; (try with_reducible rfl)
    (try simp only [Act.put, List.setIfInBounds_toArray, List.set_cons_zero, List.set_cons_succ]))
   | (
    refine wpAnyH_take (i := 4) (oi := ⟨some 25, _, _, _, _, _⟩) (v := ?_) rfl (by decide +kernel) (by decide +kernel) (by decide +kernel) (fun _ _ _ h => h) (Or.inl ⟨by rfl, ?_⟩) (by assumption) ?_
    rotate_left
    ·intro wq hSw; (try dsimp only at hSw); go_simp; (try with_reducible rfl)
    (try simp only [Act.put, List.setIfInBounds_toArray, List.set_cons_zero, List.set_cons_succ]))
   | (
    refine wpAnyH_take (i := 5) (oi := ⟨some 26, _, _, _, _, _⟩) (v := ?_) rfl (by decide +kernel) (by decide +kernel) (by decide +kernel) (fun _ _ _ h => h) (Or.inl ⟨by rfl, ?_⟩) (by assumption) ?_
    rotate_left
    ·intro wq hSw; (try dsimp only at hSw); go_simp; (try with_reducible rfl)
    (try simp only [Act.put, List.setIfInBounds_toArray, List.set_cons_zero, List.set_cons_succ]))
   | (
    refine wpAnyH_take (i := 8) (oi := ⟨some 5, _, _, _, _, _⟩) (v := ?_) rfl (by decide +kernel) (by decide +kernel) (by decide +kernel) (fun _ _ _ h => h) (Or.inl ⟨by rfl, ?_⟩) (by assumption) ?_
    rotate_left
    ·intro wq hSw; (try dsimp only at hSw); go_simp; (try with_reducible rfl)
    (try simp only [Act.put, List.setIfInBounds_toArray, List.set_cons_zero, List.set_cons_succ]))
   | (refine wpAnyH_ready (rs := [6, 7]) ?_ ?_ ?_; decide +kernel; simp)
   | (refine wpAnyH_ready (rs := [7]) ?_ ?_ ?_; decide +kernel; simp)
   | (refine wpAnyH_ready (rs := [9]) ?_ ?_ ?_; decide +kernel; simp)
   | (refine wpAnyH_ready (rs := [10]) ?_ ?_ ?_; decide +kernel; simp)
   | (refine wpAnyH_ready (rs := [6]) ?_ ?_ ?_; decide +kernel; simp)
   | (
    first
     | (
      refine AllReadyH.cons (i := 6) (o := ⟨some 6, _, _, _, _, _⟩) rfl (fun K hK => ?_) ?_
      obtain ⟨wL, b6, eL, eb6, z6, hb6, kL, kW⟩ := al_b kW (.cells #[.bool false, .slice none 0 0] 38)
      try have hne : b6 ≠ b7 := by have := z7.lt; have := eb6.out; omega
      replace z6 : ZB wL b6 false none 0 0 := z6
      try have z7 := z7.below kL
      go_simp
      rw [eL.out]
      (try simp only [eb6.out]))
     | (
      refine AllReadyH.cons (i := 7) (o := ⟨some 7, _, _, _, _, _⟩) rfl (fun K hK => ?_) ?_
      obtain ⟨wL, b7, eL, eb7, z7, hb7, kL, kW⟩ := al_b kW (.cells #[.bool false, .slice none 0 0] 38)
      try have hne : b6 ≠ b7 := by have := z6.lt; have := eb7.out; omega
      replace z7 : ZB wL b7 false none 0 0 := z7
      try have z6 := z6.below kL
      go_simp
      rw [eL.out]
      (try simp only [eb7.out]))
     | (
      refine AllReadyH.cons (i := 9) (o := ⟨none, _, _, _, _, _⟩) rfl (fun K hK => ?_) ?_
      have f0 := z6.c0
      have f1 := z6.c1
      have f2 := z6.f 0
      have f3 := z6.f 1
      obtain ⟨w8x, e8, z6, kZ, hzn, hzb⟩ := fst_z kW hb6 z6 za.s za.a za.l za.c
      have z7 := hzb _ _ _ _ _ hne.symm z7
      go_simp
      rw [e8.out]
      clear f0 f1 f2 f3 hzn hzb
      have kW := kZ)
     | (
      refine AllReadyH.cons (i := 10) (o := ⟨none, _, _, _, _, _⟩) rfl (fun K hK => ?_) ?_
      have f0 := z7.c0
      have f1 := z7.c1
      have f2 := z7.f 0
      have f3 := z7.f 1
      obtain ⟨w8x, e8, z7, kZ, hzn, hzb⟩ := fst_z kW hb7 z7 zb.s zb.a zb.l zb.c
      have z6 := hzb _ _ _ _ _ hne z6
      go_simp
      rw [e8.out]
      clear f0 f1 f2 f3 hzn hzb
      have kW := kZ)
    refine hK.out _ _ ?_ ?_
    ·first | with_reducible exact trivial | ((try dsimp only); exact ⟨(Below.cell (p := ⟨bt, 0, none⟩) kW hbt).trans q0, (Below.cell (p := ⟨bt, 1, none⟩) kW hbt).trans q1, (Below.cell (p := ⟨bt, 2, none⟩) kW hbt).trans q2, (Below.cell (p := ⟨bt, 3, none⟩) kW hbt).trans q3, (Below.cell (p := ⟨bt, 4, none⟩) kW hbt).trans q4⟩)
    clear hK K hHeld; intro hHeld
    (try simp only [Act.put, List.setIfInBounds_toArray, List.set_cons_zero, List.set_cons_succ]))
  all_goals
   refine wpAnyH_done ?_ ?_ _
   ·decide +kernel
   have y1 := hide z6
   have y2 := hide z7
   have y4 := hide kW
   clear kW hHeld z6 z7
   go_wp2_with fail
   go_meet
   case rel => exact ⟨b6, b7, rfl, rfl, rfl, y1, y2, y4⟩
 case rest =>
 obtain ⟨b6, b7, rfl, rfl, rfl, y6, y7, kw⟩ := hcut
 generalize wc = w1 at *
 have hset := hide (sets19_n (lc := lc) (hR0.out.below kw.out) hn)
 replace ha := hide (ha.out.below kw.out)
 replace hb := hide (hb.out.below kw.out)
 replace kw : Hid (Below w.heap.size w w1) := hide (grow_step kw.out b0.out)
 clear hR0 b0 q0 q1 q2 q3 q4 hbt
 go_wp2_with fail
 refine hset.out.mono ?_
 rintro e w2 ⟨sa, sn, sc, Ds, rfl, hsa, hsl, hs1, hs2, hcs, -, kN⟩
 obtain ⟨ba, hbal, rfl, -⟩ := hsl.get (i := 0) hs1 (by have := hsl.1; omega)
 have hkn := hide (known19_n w2)
 have hnil : ∀ W : World, (binOp .eql 27 (.slice (some ⟨ba, 0, none⟩) sn sc) (.slice none 0 0)).run Tryz.prog W = .ok (.bool false) W := fun W => Go.Lib.run_eql_slice_some_nil W _ _ _ Tryz.underlying27
 replace ha := hide (ha.out.below kN)
 replace hb := hide (hb.out.below kN)
 replace y6 := hide (y6.out.below kN)
 replace y7 := hide (y7.out.below kN)
 replace kw := hide (grow_step kN kw.out)
 clear hsa hset kN
 replace hsl := hide hsl
 replace hcs := hide hcs
 go_wp2_with fail
 refine hkn.out.mono ?_
 rintro e w3 ⟨rfl, kN⟩
 replace ha := hide (ha.out.below kN)
 replace hb := hide (hb.out.below kN)
 replace y6 := hide (y6.out.below kN)
 replace y7 := hide (y7.out.below kN)
 have hs := hsl.out.below kN
 replace kw := hide (grow_step kN kw.out)
 have hl := hs.1
 have hji := pkN_lt (c := k) (n := (sn : Int)) (by omega)
 have hci := hide (pick19_n k sn k0 k1 (by omega) (by omega) w3)
 obtain ⟨xi, hxi⟩ : ∃ xi, pkN k (sn : Int) = xi := ⟨_, rfl⟩
 rw [hxi] at hji hci
 obtain ⟨_, bS, e1, hba, dA, pD⟩ := hs.get (i := xi) (by omega) (by omega)
 cases e1
 have hcD := hcs.out _ (List.getElem_mem (show xi < Ds.length by omega))
 generalize Ds[xi]'(by omega) = D at *
 replace pD := hide pD
 clear hkn hsl kN hs hl hcs hxi
 go_wp2_with fail
 refine hci.out.mono ?_
 rintro e w4 ⟨rfl, kN⟩
 have gA := (kN.cell (p := ⟨ba, xi, none⟩) hba).trans dA
 replace ha := hide (ha.out.below kN)
 replace hb := hide (hb.out.below kN)
 replace y6 := hide (y6.out.below kN)
 replace y7 := hide (y7.out.below kN)
 replace pD := hide (pD.out.below kN)
 replace kw := hide (grow_step kN kw.out)
 clear hci dA hba kN hnil k0 k1 hs1 hs2
 have hab := hide (rabs_n hb.out (by omega))
 have c0 := y7.out.c0
 have c1 := y7.out.c1
 go_wp2_with fail
 refine hab.out.mono ?_
 rintro e w5 ⟨sd, ad, ld, cd, rfl, hd, kN, hdl⟩
 have kA := grow_step (below_alloc w5 (.cells #[.bool sd, .slice ad ld cd] 38)) kN
 have yd := hide (zb_new w5 sd ad ld cd)
 replace hd := hide (hd.below (below_alloc w5 (.cells #[.bool sd, .slice ad ld cd] 38)))
 obtain ⟨d, hdd⟩ : ∃ d : Int, (far.natAbs : Int) = d := ⟨_, rfl⟩
 have hd0 : 0 ≤ d := by omega
 rw [hdd] at hd
 clear hdd
 replace ha := hide (ha.out.below kA)
 replace y6 := hide (y6.out.below kA)
 replace pD := hide (pD.out.below kA)
 replace kw := hide (grow_step kA kw.out)
 clear hab kA kN hb y7 c0 c1 gA
 go_upto_region 7 with (fail)
 generalize w5.alloc (.cells #[.bool sd, .slice ad ld cd] 38) = w6 at *
 obtain ⟨b10, hb10⟩ : ∃ b10, w5.heap.size = b10 := ⟨_, rfl⟩
 rw [hb10] at yd ⊢
 clear hb10
 have hnx := hide (next_n (LL := 8589934592) pD.out (by omega) ha.out (by omega) (by omega) (by omega))
 have c0 := y6.out.c0
 have c1 := y6.out.c1
 go_wp2_with fail
 refine hnx.out.mono ?_
 rintro e w7 ⟨kN, hN⟩
 obtain ⟨z, b, he, hX⟩ := nx_one hN
 clear hN
 subst he
 have ba := below_alloc w7 (.cells #[.bool z.s, .slice z.a z.l z.c] 38)
 have y11 := hide (zb_new w7 z.s z.a z.l z.c)
 have hN := hide (hX.below ba)
 have ha7 := hide (ha.out.below kN)
 have y67 := hide (y6.out.below kN)
 have pD7 := hide (pD.out.below kN)
 have yd7 := hide (yd.out.below kN)
 have hd7 := hide (hd.out.below kN)
 have kw7 := hide (grow_step kN kw.out)
 replace ha := hide (ha7.out.below ba)
 replace y6 := hide (y67.out.below ba)
 replace pD := hide (pD7.out.below ba)
 replace yd := hide (yd7.out.below ba)
 replace hd := hide (hd7.out.below ba)
 have k7 := hide ba
 clear hnx ba kN c0 c1 hX kw
 go_upto_if 50 with (fail)
 generalize w7.alloc (.cells #[.bool z.s, .slice z.a z.l z.c] 38) = w8 at *
 obtain ⟨b11, hb11⟩ : ∃ b11, w7.heap.size = b11 := ⟨_, rfl⟩
 rw [hb11] at y11 ⊢
 replace hb11 := hide hb11
 go_cut [] (fun wc => Hid (Below w8.heap.size w8 wc))
 case first =>
  cases b with
  | true =>
   obtain ⟨v, hv1, hv2, hv3, hzv, hzl⟩ := hN.out.1 rfl
   have hcn : Hid (cntI (mem D) x v = 1) := hide (cntI_last (by omega) (fun u h1 h2 => hv2 u (by omega) (by omega)) hv3)
   have hge : 0 ≤ cmpI v x := cmpI_nn (by omega)
   clear hN hv2
   replace hzv := hide hzv
   have hco := hide (Count_n pD.out (by omega) ha.out (by omega) hzv.out.zm (by omega))
   have c0 := y6.out.c0
   have c1 := y6.out.c1
   have c2 := y11.out.c0
   have c3 := y11.out.c1
   go_wp2_with fail
   refine hco.out.mono ?_
   rintro e w9 ⟨zk, rfl, hzk, hkl, kN⟩
   rw [hcn.out] at hzk
   have kA := grow_step (below_alloc w9 (.cells #[.bool zk.s, .slice zk.a zk.l zk.c] 38)) kN
   have y13 := hide (zb_new w9 zk.s zk.a zk.l zk.c)
   replace hzk := hide (hzk.below (below_alloc w9 (.cells #[.bool zk.s, .slice zk.a zk.l zk.c] 38)))
   replace ha := hide (ha.out.below kA)
   replace hzv := hide (hzv.out.below kA)
   replace y6 := hide (y6.out.below kA)
   replace y11 := hide (y11.out.below kA)
   replace pD := hide (pD.out.below kA)
   have k8 := hide kA
   clear hco kA kN c0 c1 c2 c3 yd hd
   go_upto_region 10 with (fail)
   generalize w9.alloc (.cells #[.bool zk.s, .slice zk.a zk.l zk.c] 38) = wA at *
   obtain ⟨b13, hb13⟩ : ∃ b13, w9.heap.size = b13 := ⟨_, rfl⟩
   rw [hb13] at y13 ⊢
   clear hb13
   obtain ⟨cv, hcv⟩ : ∃ cv, cmpI v x = cv := ⟨_, rfl⟩
   rw [hcv] at hge
   replace hcv := hide hcv
   have hd1 : decide (cv < 0) = false := by rw [decide_eq_false_iff_not]; omega
   refine wp_region_held_drew (S := (fun w' => (w'.cell? ⟨b11, 0, none⟩ = some (.bool z.s) ∧ w'.cell? ⟨b11, 1, none⟩ = some (.slice z.a z.l z.c)) ∧ (w'.cell? ⟨b6, 0, none⟩ = some (.bool za.s) ∧ w'.cell? ⟨b6, 1, none⟩ = some (.slice za.a za.l za.c)) ∧ (w'.cell? ⟨b13, 0, none⟩ = some (.bool zk.s) ∧ w'.cell? ⟨b13, 1, none⟩ = some (.slice zk.a zk.l zk.c)))) (by kernel_rfl) (⟨⟨(y11.out.below (grow_drew (Below.refl _ _))).c0, (y11.out.below (grow_drew (Below.refl _ _))).c1⟩, ⟨(y6.out.below (grow_drew (Below.refl _ _))).c0, (y6.out.below (grow_drew (Below.refl _ _))).c1⟩, ⟨(y13.out.below (grow_drew (Below.refl _ _))).c0, (y13.out.below (grow_drew (Below.refl _ _))).c1⟩⟩) (fun hHeld => ?_)
   show wpAnyH _ _ _ _ _ 20 _ _ _
   have kW := grow_drew (Below.refl wA.heap.size wA)
   generalize wA.drew = wQ at *
   refine wpAnyH_take (i := 0) (oi := ⟨some 58, _, _, _, _, _⟩) (v := ?_) rfl (by decide +kernel) (by decide +kernel) (by decide +kernel) (fun _ _ _ h => h) (Or.inl ⟨by rfl, ?_⟩) (by assumption) ?_
   rotate_left
   ·intro wq hSw; (try dsimp only at hSw); go_simp; (try with_reducible rfl)
   (try simp only [Act.put, List.setIfInBounds_toArray, List.set_cons_zero, List.set_cons_succ])
   refine wpAnyH_take (i := 1) (oi := ⟨some 59, _, _, _, _, _⟩) (v := ?_) rfl (by decide +kernel) (by decide +kernel) (by decide +kernel) (fun _ _ _ h => h) (Or.inl ⟨by rfl, ?_⟩) (by assumption) ?_
   rotate_left
   ·intro wq hSw; (try dsimp only at hSw); go_simp; (try with_reducible rfl)
   (try simp only [Act.put, List.setIfInBounds_toArray, List.set_cons_zero, List.set_cons_succ])
   refine wpAnyH_ready (rs := [2]) (by decide +kernel) (by simp) ?_
   refine AllReadyH.cons (i := 2) (o := ⟨some 60, _, _, _, _, _⟩) rfl (fun K hK => ?_) AllReadyH.nil
   go_simp
   go_at_call 40; refine Calls.mono (sHas_n (y := z) (pD.out.below kW) (by omega) (hzv.out.below kW).zm (by omega)) ?_; rintro e wkB ⟨rfl, kB⟩
   rw [hv3]
   have kW := grow_step kB kW
   try go_wp2_with fail
   refine hK.out _ _ ?_ ?_
   ·first | with_reducible exact trivial | ((try dsimp only); exact ⟨⟨(y11.out.below kW).c0, (y11.out.below kW).c1⟩, ⟨(y6.out.below kW).c0, (y6.out.below kW).c1⟩, ⟨(y13.out.below kW).c0, (y13.out.below kW).c1⟩⟩)
   clear hK K hHeld; intro hHeld
   (try simp only [Act.put, List.setIfInBounds_toArray, List.set_cons_zero, List.set_cons_succ])
   refine wpAnyH_take (i := 3) (oi := ⟨some 61, _, _, _, _, _⟩) (v := ?_) rfl (by decide +kernel) (by decide +kernel) (by decide +kernel) (fun _ _ _ h => h) (Or.inl ⟨by rfl, ?_⟩) (by assumption) ?_
   rotate_left
   ·intro wq hSw; (try dsimp only at hSw); go_simp; (try with_reducible rfl)
   (try simp only [Act.put, List.setIfInBounds_toArray, List.set_cons_zero, List.set_cons_succ])
   refine wpAnyH_take (i := 4) (oi := ⟨some 62, _, _, _, _, _⟩) (v := ?_) rfl (by decide +kernel) (by decide +kernel) (by decide +kernel) (fun _ _ _ h => h) (Or.inl ⟨by rfl, ?_⟩) (by assumption) ?_
   rotate_left
   ·intro wq hSw; (try dsimp only at hSw); go_simp; (try with_reducible rfl)
   (try simp only [Act.put, List.setIfInBounds_toArray, List.set_cons_zero, List.set_cons_succ])
   refine wpAnyH_take (i := 5) (oi := ⟨some 63, _, _, _, _, _⟩) (v := ?_) rfl (by decide +kernel) (by decide +kernel) (by decide +kernel) (fun _ _ _ h => h) (Or.inl ⟨by rfl, ?_⟩) (by assumption) ?_
   rotate_left
   ·intro wq hSw; (try dsimp only at hSw); go_simp; (try with_reducible rfl)
   (try simp only [Act.put, List.setIfInBounds_toArray, List.set_cons_zero, List.set_cons_succ])
   refine wpAnyH_take (i := 6) (oi := ⟨some 64, _, _, _, _, _⟩) (v := ?_) rfl (by decide +kernel) (by decide +kernel) (by decide +kernel) (fun _ _ _ h => h) (Or.inl ⟨by rfl, ?_⟩) (by assumption) ?_
   rotate_left
   ·intro wq hSw; (try dsimp only at hSw); go_simp; (try with_reducible rfl)
   (try simp only [Act.put, List.setIfInBounds_toArray, List.set_cons_zero, List.set_cons_succ])
   refine wpAnyH_ready (rs := [7]) (by decide +kernel) (by simp) ?_
   refine AllReadyH.cons (i := 7) (o := ⟨some 65, _, _, _, _, _⟩) rfl (fun K hK => ?_) AllReadyH.nil
   go_simp
   go_at_call 35; refine Calls.mono (rcmp2_n (hzv.out.below kW).zm (ha.out.below kW) (by omega) (by omega)) ?_; rintro e wkC ⟨rfl, kC⟩
   rw [hcv.out]
   have kW := grow_step kC kW
   try go_wp2_with fail
   refine hK.out _ _ ?_ ?_
   ·first | with_reducible exact trivial | ((try dsimp only); exact ⟨⟨(y11.out.below kW).c0, (y11.out.below kW).c1⟩, ⟨(y6.out.below kW).c0, (y6.out.below kW).c1⟩, ⟨(y13.out.below kW).c0, (y13.out.below kW).c1⟩⟩)
   clear hK K hHeld; intro hHeld
   (try simp only [Act.put, List.setIfInBounds_toArray, List.set_cons_zero, List.set_cons_succ])
   refine wpAnyH_take (i := 8) (oi := ⟨some 66, _, _, _, _, _⟩) (v := .bool false) rfl (by decide +kernel) (by decide +kernel) (by decide +kernel) (fun _ _ _ h => h) (Or.inl ⟨by rfl, ?_⟩) (by assumption) ?_
   skip
   ·intro wq hSw; (try dsimp only at hSw); go_simp; (first | done | rw [hd1] | simp [hd1] | exact hd1)
   (try simp only [Act.put, List.setIfInBounds_toArray, List.set_cons_zero, List.set_cons_succ])
   refine wpAnyH_take (i := 9) (oi := ⟨some 67, _, _, _, _, _⟩) (v := ?_) rfl (by decide +kernel) (by decide +kernel) (by decide +kernel) (fun _ _ _ h => h) (Or.inl ⟨by rfl, ?_⟩) (by assumption) ?_
   rotate_left
   ·intro wq hSw; (try dsimp only at hSw); go_simp; (try with_reducible rfl)
   (try simp only [Act.put, List.setIfInBounds_toArray, List.set_cons_zero, List.set_cons_succ])
   refine wpAnyH_take (i := 10) (oi := ⟨some 68, _, _, _, _, _⟩) (v := ?_) rfl (by decide +kernel) (by decide +kernel) (by decide +kernel) (fun _ _ _ h => h) (Or.inl ⟨by rfl, ?_⟩) (by assumption) ?_
   rotate_left
   ·intro wq hSw; (try dsimp only at hSw); go_simp; (try with_reducible rfl)
   (try simp only [Act.put, List.setIfInBounds_toArray, List.set_cons_zero, List.set_cons_succ])
   refine wpAnyH_take (i := 11) (oi := ⟨some 69, _, _, _, _, _⟩) (v := ?_) rfl (by decide +kernel) (by decide +kernel) (by decide +kernel) (fun _ _ _ h => h) (Or.inl ⟨by rfl, ?_⟩) (by assumption) ?_
   rotate_left
   ·intro wq hSw; (try dsimp only at hSw); go_simp; (try with_reducible rfl)
   (try simp only [Act.put, List.setIfInBounds_toArray, List.set_cons_zero, List.set_cons_succ])
   refine wpAnyH_take (i := 12) (oi := ⟨some 70, _, _, _, _, _⟩) (v := ?_) rfl (by decide +kernel) (by decide +kernel) (by decide +kernel) (fun _ _ _ h => h) (Or.inl ⟨by rfl, ?_⟩) (by assumption) ?_
   rotate_left
   ·intro wq hSw; (try dsimp only at hSw); go_simp; (try with_reducible rfl)
   (try simp only [Act.put, List.setIfInBounds_toArray, List.set_cons_zero, List.set_cons_succ])
   refine wpAnyH_take (i := 13) (oi := ⟨some 71, _, _, _, _, _⟩) (v := ?_) rfl (by decide +kernel) (by decide +kernel) (by decide +kernel) (fun _ _ _ h => h) (Or.inl ⟨by rfl, ?_⟩) (by assumption) ?_
   rotate_left
   ·intro wq hSw; (try dsimp only at hSw); go_simp; (try with_reducible rfl)
   (try simp only [Act.put, List.setIfInBounds_toArray, List.set_cons_zero, List.set_cons_succ])
   refine wpAnyH_take (i := 14) (oi := ⟨some 72, _, _, _, _, _⟩) (v := ?_) rfl (by decide +kernel) (by decide +kernel) (by decide +kernel) (fun _ _ _ h => h) (Or.inl ⟨by rfl, ?_⟩) (by assumption) ?_
   rotate_left
   ·intro wq hSw; (try dsimp only at hSw); go_simp; (try with_reducible rfl)
   (try simp only [Act.put, List.setIfInBounds_toArray, List.set_cons_zero, List.set_cons_succ])
   refine wpAnyH_take (i := 15) (oi := ⟨some 73, _, _, _, _, _⟩) (v := ?_) rfl (by decide +kernel) (by decide +kernel) (by decide +kernel) (fun _ _ _ h => h) (Or.inl ⟨by rfl, ?_⟩) (by assumption) ?_
   rotate_left
   ·intro wq hSw; (try dsimp only at hSw); go_simp; (try with_reducible rfl)
   (try simp only [Act.put, List.setIfInBounds_toArray, List.set_cons_zero, List.set_cons_succ])
   refine wpAnyH_ready (rs := [16]) (by decide +kernel) (by simp) ?_
   refine AllReadyH.cons (i := 16) (o := ⟨some 74, _, _, _, _, _⟩) rfl (fun K hK => ?_) AllReadyH.nil
   go_simp
   go_at_call 36; refine Calls.mono (num_n (1) (by decide) (by decide) _) ?_; rintro e wkv1 ⟨v1, rfl, v1h, kv1, v1l⟩
   have kW := grow_step kv1 kW
   try go_wp2_with fail
   refine hK.out _ _ ?_ ?_
   ·first | with_reducible exact trivial | ((try dsimp only); exact ⟨⟨(y11.out.below kW).c0, (y11.out.below kW).c1⟩, ⟨(y6.out.below kW).c0, (y6.out.below kW).c1⟩, ⟨(y13.out.below kW).c0, (y13.out.below kW).c1⟩⟩)
   clear hK K hHeld; intro hHeld
   (try simp only [Act.put, List.setIfInBounds_toArray, List.set_cons_zero, List.set_cons_succ])
   refine wpAnyH_ready (rs := [17]) (by decide +kernel) (by simp) ?_
   refine AllReadyH.cons (i := 17) (o := ⟨some 75, _, _, _, _, _⟩) rfl (fun K hK => ?_) AllReadyH.nil
   go_simp
   go_at_call 23; refine Calls.mono (ints19_zn (z := zk) (y := v1) (hzk.out.below kW) v1h) ?_; rintro e wkE ⟨rfl, kE⟩
   have kW := grow_step kE kW
   try go_wp2_with fail
   refine hK.out _ _ ?_ ?_
   ·first | with_reducible exact trivial | ((try dsimp only); exact ⟨⟨(y11.out.below kW).c0, (y11.out.below kW).c1⟩, ⟨(y6.out.below kW).c0, (y6.out.below kW).c1⟩, ⟨(y13.out.below kW).c0, (y13.out.below kW).c1⟩⟩)
   clear hK K hHeld; intro hHeld
   (try simp only [Act.put, List.setIfInBounds_toArray, List.set_cons_zero, List.set_cons_succ])
   refine wpAnyH_take (i := 18) (oi := ⟨some 76, _, _, _, _, _⟩) (v := ?_) rfl (by decide +kernel) (by decide +kernel) (by decide +kernel) (fun _ _ _ h => h) (Or.inl ⟨by rfl, ?_⟩) (by assumption) ?_
   rotate_left
   ·intro wq hSw; (try dsimp only at hSw); go_simp; (try with_reducible rfl)
   (try simp only [Act.put, List.setIfInBounds_toArray, List.set_cons_zero, List.set_cons_succ])
   refine wpAnyH_take (i := 19) (oi := ⟨some 77, _, _, _, _, _⟩) (v := ?_) rfl (by decide +kernel) (by decide +kernel) (by decide +kernel) (fun _ _ _ h => h) (Or.inl ⟨by rfl, ?_⟩) (by assumption) ?_
   rotate_left
   ·intro wq hSw; (try dsimp only at hSw); go_simp; (try with_reducible rfl)
   (try simp only [Act.put, List.setIfInBounds_toArray, List.set_cons_zero, List.set_cons_succ])
   refine wpAnyH_done ?_ ?_ _
   ·decide +kernel
   have kz := hide (grow_step kW k8.out)
   clear kW hHeld
   go_wp2_with fail
   go_meet
   case rel => exact kz
  | false =>
   have hv1 := hN.out.2 rfl
   have hcn : Hid (cntI (mem D) x (x + d) = 0) := hide (cntI_zero fun u h1 _ => hv1 u (by omega))
   clear hN hv1
   go_upto_region 12 with (fail)
   refine wp_region_held_drew (S := (fun w' => (w'.cell? ⟨b6, 0, none⟩ = some (.bool za.s) ∧ w'.cell? ⟨b6, 1, none⟩ = some (.slice za.a za.l za.c)) ∧ (w'.cell? ⟨b10, 0, none⟩ = some (.bool sd) ∧ w'.cell? ⟨b10, 1, none⟩ = some (.slice ad ld cd)))) (by kernel_rfl) (⟨⟨(y6.out.below (grow_drew (Below.refl _ _))).c0, (y6.out.below (grow_drew (Below.refl _ _))).c1⟩, ⟨(yd.out.below (grow_drew (Below.refl _ _))).c0, (yd.out.below (grow_drew (Below.refl _ _))).c1⟩⟩) (fun hHeld => ?_)
   show wpAnyH _ _ _ _ _ 12 _ _ _
   have kW := grow_drew (Below.refl w8.heap.size w8)
   generalize w8.drew = wQ at *
   repeat' first
    | with_reducible exact AllReadyH.nil
    | (
     refine wpAnyH_take (i := 0) (oi := ⟨some 79, _, _, _, _, _⟩) (v := ?_) rfl (by decide +kernel) (by decide +kernel) (by decide +kernel) (fun _ _ _ h => h) (Or.inl ⟨by rfl, ?_⟩) (by assumption) ?_
     rotate_left
     ·intro wq hSw; (try dsimp only at hSw); go_simp; (try with_reducible rfl)
     (try simp only [Act.put, List.setIfInBounds_toArray, List.set_cons_zero, List.set_cons_succ]))
    | (
     refine wpAnyH_take (i := 1) (oi := ⟨some 80, _, _, _, _, _⟩) (v := ?_) rfl (by decide +kernel) (by decide +kernel) (by decide +kernel) (fun _ _ _ h => h) (Or.inl ⟨by rfl, ?_⟩) (by assumption) ?_
     rotate_left
     ·intro wq hSw; (try dsimp only at hSw); go_simp; (try with_reducible rfl)
     (try simp only [Act.put, List.setIfInBounds_toArray, List.set_cons_zero, List.set_cons_succ]))
    | (
     refine wpAnyH_take (i := 2) (oi := ⟨some 81, _, _, _, _, _⟩) (v := ?_) rfl (by decide +kernel) (by decide +kernel) (by decide +kernel) (fun _ _ _ h => h) (Or.inl ⟨by rfl, ?_⟩) (by assumption) ?_
     rotate_left
     ·intro wq hSw; (try dsimp only at hSw); go_simp; (try with_reducible rfl)
     (try simp only [Act.put, List.setIfInBounds_toArray, List.set_cons_zero, List.set_cons_succ]))
    | (
     refine wpAnyH_take (i := 3) (oi := ⟨some 82, _, _, _, _, _⟩) (v := ?_) rfl (by decide +kernel) (by decide +kernel) (by decide +kernel) (fun _ _ _ h => h) (Or.inl ⟨by rfl, ?_⟩) (by assumption) ?_
     rotate_left
     ·intro wq hSw; (try dsimp only at hSw); go_simp; (try with_reducible rfl)
     (try simp only [Act.put, List.setIfInBounds_toArray, List.set_cons_zero, List.set_cons_succ]))
    | (
     refine wpAnyH_take (i := 6) (oi := ⟨some 78, _, _, _, _, _⟩) (v := ?_) rfl (by decide +kernel) (by decide +kernel) (by decide +kernel) (fun _ _ _ h => h) (Or.inl ⟨by rfl, ?_⟩) (by assumption) ?_
     rotate_left
     ·intro wq hSw; (try dsimp only at hSw); go_simp; (try with_reducible rfl)
     (try simp only [Act.put, List.setIfInBounds_toArray, List.set_cons_zero, List.set_cons_succ]))
    | (
     refine wpAnyH_take (i := 7) (oi := ⟨some 85, _, _, _, _, _⟩) (v := ?_) rfl (by decide +kernel) (by decide +kernel) (by decide +kernel) (fun _ _ _ h => h) (Or.inl ⟨by rfl, ?_⟩) (by assumption) ?_
     rotate_left
     ·intro wq hSw; (try dsimp only at hSw); go_simp; (try with_reducible rfl)
     (try simp only [Act.put, List.setIfInBounds_toArray, List.set_cons_zero, List.set_cons_succ]))
    | (
     refine wpAnyH_take (i := 8) (oi := ⟨some 86, _, _, _, _, _⟩) (v := ?_) rfl (by decide +kernel) (by decide +kernel) (by decide +kernel) (fun _ _ _ h => h) (Or.inl ⟨by rfl, ?_⟩) (by assumption) ?_
     rotate_left
     ·intro wq hSw; (try dsimp only at hSw); go_simp; (try with_reducible rfl)
     (try simp only [Act.put, List.setIfInBounds_toArray, List.set_cons_zero, List.set_cons_succ]))
    | (
     refine wpAnyH_take (i := 11) (oi := ⟨some 16, _, _, _, _, _⟩) (v := ?_) rfl (by decide +kernel) (by decide +kernel) (by decide +kernel) (fun _ _ _ h => h) (Or.inl ⟨by rfl, ?_⟩) (by assumption) ?_
     rotate_left
     ·intro wq hSw; (try dsimp only at hSw); go_simp; (try with_reducible rfl)
     (try simp only [Act.put, List.setIfInBounds_toArray, List.set_cons_zero, List.set_cons_succ]))
    | (refine wpAnyH_ready (rs := [4, 9]) ?_ ?_ ?_; decide +kernel; simp)
    | (refine wpAnyH_ready (rs := [5, 9]) ?_ ?_ ?_; decide +kernel; simp)
    | (refine wpAnyH_ready (rs := [9]) ?_ ?_ ?_; decide +kernel; simp)
    | (refine wpAnyH_ready (rs := [10]) ?_ ?_ ?_; decide +kernel; simp)
    | (refine wpAnyH_ready (rs := [5]) ?_ ?_ ?_; decide +kernel; simp)
    | (refine wpAnyH_ready (rs := [4]) ?_ ?_ ?_; decide +kernel; simp)
    | (
     first
      | (
       refine AllReadyH.cons (i := 4) (o := ⟨some 83, _, _, _, _, _⟩) rfl (fun K hK => ?_) ?_
       go_simp
       go_at_call 37; refine Calls.mono (radd2_n (ha.out.below kW) (hd.out.below kW).zm (by omega) (by omega)) ?_; rintro e wkA ⟨sA, aA, lA, cA, rfl, hzA, kA, hlA⟩
       try have z15 := z15.below kA
       have kW := grow_step kA kW
       try go_wp2_with fail)
      | (
       refine AllReadyH.cons (i := 5) (o := ⟨some 84, _, _, _, _, _⟩) rfl (fun K hK => ?_) ?_
       go_simp
       go_at_call 22; refine Calls.mono (Count_n (zh := ⟨sA, aA, lA, cA⟩) (pD.out.below kW) (by omega) (ha.out.below kW) (by omega) hzA.zm (by show lA ≤ _; omega)) ?_; rintro e wkB ⟨zk, rfl, hzk, hkl, kB⟩
       rw [hcn.out] at hzk
       try have z15 := z15.below kB
       have kW := grow_step kB kW
       try go_wp2_with fail)
      | (
       refine AllReadyH.cons (i := 9) (o := ⟨some 15, _, _, _, _, _⟩) rfl (fun K hK => ?_) ?_
       obtain ⟨wL, b15, eL, eb15, z15, hb15, kL, kW⟩ := al_b kW (.cells #[.bool false, .slice none 0 0] 38)
       replace z15 : ZB wL b15 false none 0 0 := z15
       try have hzA := hzA.below kL
       try have hzk := hzk.below kL
       go_simp
       rw [eL.out]
       (try simp only [eb15.out]))
      | (
       refine AllReadyH.cons (i := 10) (o := ⟨none, _, _, _, _, _⟩) rfl (fun K hK => ?_) ?_
       have f0 := z15.c0
       have f1 := z15.c1
       have f2 := z15.f 0
       have f3 := z15.f 1
       obtain ⟨w8x, e8, z15, kZ, hzn, hzb⟩ := fst_z kW hb15 z15 zk.s zk.a zk.l zk.c
       have hzk := hzn _ _ _ _ _ hzk
       go_simp
       rw [e8.out]
       clear f0 f1 f2 f3 hzn hzb
       have kW := kZ)
     refine hK.out _ _ ?_ ?_
     ·first | with_reducible exact trivial | ((try dsimp only); exact ⟨⟨(y6.out.below kW).c0, (y6.out.below kW).c1⟩, ⟨(yd.out.below kW).c0, (yd.out.below kW).c1⟩⟩)
     clear hK K hHeld; intro hHeld
     (try simp only [Act.put, List.setIfInBounds_toArray, List.set_cons_zero, List.set_cons_succ]))
   all_goals
    refine wpAnyH_done ?_ ?_ _
    ·decide +kernel
    replace hzk := hide hzk
    have y15 := hide z15
    have k8 := hide kW
    clear kW hHeld hzA z15 e8
    go_upto_region 13 with (fail)
    generalize w8x = wB at *
    refine wp_region_held_drew (S := (fun w' => (w'.cell? ⟨b15, 0, none⟩ = some (.bool zk.s) ∧ w'.cell? ⟨b15, 1, none⟩ = some (.slice zk.a zk.l zk.c)))) (by kernel_rfl) (⟨(y15.out.below (grow_drew (Below.refl _ _))).c0, (y15.out.below (grow_drew (Below.refl _ _))).c1⟩) (fun hHeld => ?_)
    show wpAnyH _ _ _ _ _ 8 _ _ _
    have kW := grow_drew (Below.refl wB.heap.size wB)
    generalize wB.drew = wQ at *
    refine wpAnyH_take (i := 0) (oi := ⟨some 87, _, _, _, _, _⟩) (v := ?_) rfl (by decide +kernel) (by decide +kernel) (by decide +kernel) (fun _ _ _ h => h) (Or.inl ⟨by rfl, ?_⟩) (by assumption) ?_
    rotate_left
    ·intro wq hSw; (try dsimp only at hSw); go_simp; (try with_reducible rfl)
    (try simp only [Act.put, List.setIfInBounds_toArray, List.set_cons_zero, List.set_cons_succ])
    refine wpAnyH_take (i := 1) (oi := ⟨some 88, _, _, _, _, _⟩) (v := ?_) rfl (by decide +kernel) (by decide +kernel) (by decide +kernel) (fun _ _ _ h => h) (Or.inl ⟨by rfl, ?_⟩) (by assumption) ?_
    rotate_left
    ·intro wq hSw; (try dsimp only at hSw); go_simp; (try with_reducible rfl)
    (try simp only [Act.put, List.setIfInBounds_toArray, List.set_cons_zero, List.set_cons_succ])
    refine wpAnyH_take (i := 2) (oi := ⟨some 89, _, _, _, _, _⟩) (v := ?_) rfl (by decide +kernel) (by decide +kernel) (by decide +kernel) (fun _ _ _ h => h) (Or.inl ⟨by rfl, ?_⟩) (by assumption) ?_
    rotate_left
    ·intro wq hSw; (try dsimp only at hSw); go_simp; (try with_reducible rfl)
    (try simp only [Act.put, List.setIfInBounds_toArray, List.set_cons_zero, List.set_cons_succ])
    refine wpAnyH_take (i := 3) (oi := ⟨some 90, _, _, _, _, _⟩) (v := ?_) rfl (by decide +kernel) (by decide +kernel) (by decide +kernel) (fun _ _ _ h => h) (Or.inl ⟨by rfl, ?_⟩) (by assumption) ?_
    rotate_left
    ·intro wq hSw; (try dsimp only at hSw); go_simp; (try with_reducible rfl)
    (try simp only [Act.put, List.setIfInBounds_toArray, List.set_cons_zero, List.set_cons_succ])
    refine wpAnyH_ready (rs := [4]) (by decide +kernel) (by simp) ?_
    refine AllReadyH.cons (i := 4) (o := ⟨some 91, _, _, _, _, _⟩) rfl (fun K hK => ?_) AllReadyH.nil
    go_simp
    go_at_call 36; refine Calls.mono (num_n (0) (by decide) (by decide) _) ?_; rintro e wkv1 ⟨v1, rfl, v1h, kv1, v1l⟩
    have kW := grow_step kv1 kW
    try go_wp2_with fail
    refine hK.out _ _ ?_ ?_
    ·first | with_reducible exact trivial | ((try dsimp only); exact ⟨(y15.out.below kW).c0, (y15.out.below kW).c1⟩)
    clear hK K hHeld; intro hHeld
    (try simp only [Act.put, List.setIfInBounds_toArray, List.set_cons_zero, List.set_cons_succ])
    refine wpAnyH_ready (rs := [5]) (by decide +kernel) (by simp) ?_
    refine AllReadyH.cons (i := 5) (o := ⟨some 92, _, _, _, _, _⟩) rfl (fun K hK => ?_) AllReadyH.nil
    go_simp
    go_at_call 23; refine Calls.mono (ints19_zn (z := zk) (y := v1) (hzk.out.below kW) v1h) ?_; rintro e wkE ⟨rfl, kE⟩
    have kW := grow_step kE kW
    try go_wp2_with fail
    refine hK.out _ _ ?_ ?_
    ·first | with_reducible exact trivial | ((try dsimp only); exact ⟨(y15.out.below kW).c0, (y15.out.below kW).c1⟩)
    clear hK K hHeld; intro hHeld
    (try simp only [Act.put, List.setIfInBounds_toArray, List.set_cons_zero, List.set_cons_succ])
    refine wpAnyH_take (i := 6) (oi := ⟨some 93, _, _, _, _, _⟩) (v := ?_) rfl (by decide +kernel) (by decide +kernel) (by decide +kernel) (fun _ _ _ h => h) (Or.inl ⟨by rfl, ?_⟩) (by assumption) ?_
    rotate_left
    ·intro wq hSw; (try dsimp only at hSw); go_simp; (try with_reducible rfl)
    (try simp only [Act.put, List.setIfInBounds_toArray, List.set_cons_zero, List.set_cons_succ])
    refine wpAnyH_take (i := 7) (oi := ⟨some 94, _, _, _, _, _⟩) (v := ?_) rfl (by decide +kernel) (by decide +kernel) (by decide +kernel) (fun _ _ _ h => h) (Or.inl ⟨by rfl, ?_⟩) (by assumption) ?_
    rotate_left
    ·intro wq hSw; (try dsimp only at hSw); go_simp; (try with_reducible rfl)
    (try simp only [Act.put, List.setIfInBounds_toArray, List.set_cons_zero, List.set_cons_succ])
    refine wpAnyH_done ?_ ?_ _
    ·decide +kernel
    have kz := hide (grow_step kW k8.out)
    clear kW hHeld
    go_wp2_with fail
    go_meet
    case rel => exact kz
 case rest =>
 generalize wc = w9 at *
 have k9 := grow_step hcut.out k7.out
 replace y11 := hide (y11.out.below hcut.out)
 clear hcut hN ha y6 pD yd hd k7
 have hnx := hide (last_n (LL := 8589934592) (pD7.out.below k9) (by omega) (ha7.out.below k9) (by omega) (by omega) (by omega))
 have c0 := (y67.out.below k9).c0
 have c1 := (y67.out.below k9).c1
 replace k9 := hide k9
 go_wp2_with fail
 refine hnx.out.mono ?_
 rintro e wA ⟨kN, hN⟩
 obtain ⟨z2, b2, he, hX⟩ := nx_one hN
 clear hN
 subst he
 have yA := y11.out.below kN
 have f0 := yA.c0
 have f1 := yA.c1
 have f2 := yA.f 0
 have f3 := yA.f 1
 obtain ⟨wB, e8, yB, kZ, hzn, -⟩ := fst_z (grow_step kN k9.out) (Nat.le_of_eq hb11.out) yA z2.s z2.a z2.l z2.c
 have ha := hide (ha7.out.below kZ)
 have y6 := hide (y67.out.below kZ)
 have pD := hide (pD7.out.below kZ)
 have yd := hide (yd7.out.below kZ)
 have hd := hide (hd7.out.below kZ)
 have kw := hide (grow_step kZ kw7.out)
 replace yB := hide yB
 have hX2 : Hid (Nx wB (mem D) x (-1) (8589934592 + 8192) z2 b2) := hide ⟨fun e => let ⟨v, h1, h2, h3, h4, h5⟩ := hX.1 e; ⟨v, h1, h2, h3, hzn _ _ _ _ _ h4, h5⟩, hX.2⟩
 clear hnx kN c0 c1 y11 hX yA hzn kZ k9 kw7 ha7 y67 pD7 yd7 hd7 hb11
 go_upto_if 101 with (fail)
 rw [e8.out]
 clear f0 f1 f2 f3 e8
 cases b2 with
 | true =>
  obtain ⟨v, hv1, hv2, hv3, hzv, hzl⟩ := hX2.out.1 rfl
  have hcn : Hid (cntI (mem D) v x = 1) := hide (cntI_first (by omega) (fun u h1 h2 => hv2 u (by omega) (by omega)) hv3)
  have hge : cmpI v x ≤ 0 := cmpI_np (by omega)
  clear hX2 hv2
  replace hzv := hide hzv
  have hco := hide (Count_n pD.out (by omega) hzv.out.zm (by omega) ha.out (by omega))
  have c0 := y6.out.c0
  have c1 := y6.out.c1
  have c2 := yB.out.c0
  have c3 := yB.out.c1
  go_wp2_with fail
  refine hco.out.mono ?_
  rintro e w9 ⟨zk, rfl, hzk, hkl, kN⟩
  rw [hcn.out] at hzk
  have kA := grow_step (below_alloc w9 (.cells #[.bool zk.s, .slice zk.a zk.l zk.c] 38)) kN
  have y13 := hide (zb_new w9 zk.s zk.a zk.l zk.c)
  replace hzk := hide (hzk.below (below_alloc w9 (.cells #[.bool zk.s, .slice zk.a zk.l zk.c] 38)))
  replace ha := hide (ha.out.below kA)
  replace hzv := hide (hzv.out.below kA)
  replace y6 := hide (y6.out.below kA)
  replace yB := hide (yB.out.below kA)
  replace pD := hide (pD.out.below kA)
  have k8 := hide (grow_step kA kw.out)
  clear hco kA kN c0 c1 c2 c3 yd hd kw
  go_upto_region 18 with (fail)
  generalize w9.alloc (.cells #[.bool zk.s, .slice zk.a zk.l zk.c] 38) = wA at *
  obtain ⟨b17, hb17⟩ : ∃ b17, w9.heap.size = b17 := ⟨_, rfl⟩
  rw [hb17] at y13 ⊢
  clear hb17
  obtain ⟨cv, hcv⟩ : ∃ cv, cmpI v x = cv := ⟨_, rfl⟩
  rw [hcv] at hge
  replace hcv := hide hcv
  have hd1 : decide (cv ≤ 0) = true := by rw [decide_eq_true_iff]; omega
  refine wp_region_held_drew (S := (fun w' => (w'.cell? ⟨b11, 0, none⟩ = some (.bool z2.s) ∧ w'.cell? ⟨b11, 1, none⟩ = some (.slice z2.a z2.l z2.c)) ∧ (w'.cell? ⟨b6, 0, none⟩ = some (.bool za.s) ∧ w'.cell? ⟨b6, 1, none⟩ = some (.slice za.a za.l za.c)) ∧ (w'.cell? ⟨b17, 0, none⟩ = some (.bool zk.s) ∧ w'.cell? ⟨b17, 1, none⟩ = some (.slice zk.a zk.l zk.c)))) (by kernel_rfl) (⟨⟨(yB.out.below (grow_drew (Below.refl _ _))).c0, (yB.out.below (grow_drew (Below.refl _ _))).c1⟩, ⟨(y6.out.below (grow_drew (Below.refl _ _))).c0, (y6.out.below (grow_drew (Below.refl _ _))).c1⟩, ⟨(y13.out.below (grow_drew (Below.refl _ _))).c0, (y13.out.below (grow_drew (Below.refl _ _))).c1⟩⟩) (fun hHeld => ?_)
  show wpAnyH _ _ _ _ _ 19 _ _ _
  have kW := grow_drew (Below.refl wA.heap.size wA)
  generalize wA.drew = wQ at *
  refine wpAnyH_take (i := 0) (oi := ⟨some 109, _, _, _, _, _⟩) (v := ?_) rfl (by decide +kernel) (by decide +kernel) (by decide +kernel) (fun _ _ _ h => h) (Or.inl ⟨by rfl, ?_⟩) (by assumption) ?_
  rotate_left
  ·intro wq hSw; (try dsimp only at hSw); go_simp; (try with_reducible rfl)
  (try simp only [Act.put, List.setIfInBounds_toArray, List.set_cons_zero, List.set_cons_succ])
  refine wpAnyH_take (i := 1) (oi := ⟨some 110, _, _, _, _, _⟩) (v := ?_) rfl (by decide +kernel) (by decide +kernel) (by decide +kernel) (fun _ _ _ h => h) (Or.inl ⟨by rfl, ?_⟩) (by assumption) ?_
  rotate_left
  ·intro wq hSw; (try dsimp only at hSw); go_simp; (try with_reducible rfl)
  (try simp only [Act.put, List.setIfInBounds_toArray, List.set_cons_zero, List.set_cons_succ])
  refine wpAnyH_ready (rs := [2]) (by decide +kernel) (by simp) ?_
  refine AllReadyH.cons (i := 2) (o := ⟨some 111, _, _, _, _, _⟩) rfl (fun K hK => ?_) AllReadyH.nil
  go_simp
  go_at_call 40; refine Calls.mono (sHas_n (y := z2) (pD.out.below kW) (by omega) (hzv.out.below kW).zm (by omega)) ?_; rintro e wkB ⟨rfl, kB⟩
  rw [hv3]
  have kW := grow_step kB kW
  try go_wp2_with fail
  refine hK.out _ _ ?_ ?_
  ·first | with_reducible exact trivial | ((try dsimp only); exact ⟨⟨(yB.out.below kW).c0, (yB.out.below kW).c1⟩, ⟨(y6.out.below kW).c0, (y6.out.below kW).c1⟩, ⟨(y13.out.below kW).c0, (y13.out.below kW).c1⟩⟩)
  clear hK K hHeld; intro hHeld
  (try simp only [Act.put, List.setIfInBounds_toArray, List.set_cons_zero, List.set_cons_succ])
  refine wpAnyH_take (i := 3) (oi := ⟨some 112, _, _, _, _, _⟩) (v := ?_) rfl (by decide +kernel) (by decide +kernel) (by decide +kernel) (fun _ _ _ h => h) (Or.inl ⟨by rfl, ?_⟩) (by assumption) ?_
  rotate_left
  ·intro wq hSw; (try dsimp only at hSw); go_simp; (try with_reducible rfl)
  (try simp only [Act.put, List.setIfInBounds_toArray, List.set_cons_zero, List.set_cons_succ])
  refine wpAnyH_take (i := 4) (oi := ⟨some 113, _, _, _, _, _⟩) (v := ?_) rfl (by decide +kernel) (by decide +kernel) (by decide +kernel) (fun _ _ _ h => h) (Or.inl ⟨by rfl, ?_⟩) (by assumption) ?_
  rotate_left
  ·intro wq hSw; (try dsimp only at hSw); go_simp; (try with_reducible rfl)
  (try simp only [Act.put, List.setIfInBounds_toArray, List.set_cons_zero, List.set_cons_succ])
  refine wpAnyH_take (i := 5) (oi := ⟨some 114, _, _, _, _, _⟩) (v := ?_) rfl (by decide +kernel) (by decide +kernel) (by decide +kernel) (fun _ _ _ h => h) (Or.inl ⟨by rfl, ?_⟩) (by assumption) ?_
  rotate_left
  ·intro wq hSw; (try dsimp only at hSw); go_simp; (try with_reducible rfl)
  (try simp only [Act.put, List.setIfInBounds_toArray, List.set_cons_zero, List.set_cons_succ])
  refine wpAnyH_ready (rs := [6]) (by decide +kernel) (by simp) ?_
  refine AllReadyH.cons (i := 6) (o := ⟨some 115, _, _, _, _, _⟩) rfl (fun K hK => ?_) AllReadyH.nil
  go_simp
  go_at_call 35; refine Calls.mono (rcmp2_n (hzv.out.below kW).zm (ha.out.below kW) (by omega) (by omega)) ?_; rintro e wkC ⟨rfl, kC⟩
  rw [hcv.out]
  have kW := grow_step kC kW
  try go_wp2_with fail
  refine hK.out _ _ ?_ ?_
  ·first | with_reducible exact trivial | ((try dsimp only); exact ⟨⟨(yB.out.below kW).c0, (yB.out.below kW).c1⟩, ⟨(y6.out.below kW).c0, (y6.out.below kW).c1⟩, ⟨(y13.out.below kW).c0, (y13.out.below kW).c1⟩⟩)
  clear hK K hHeld; intro hHeld
  (try simp only [Act.put, List.setIfInBounds_toArray, List.set_cons_zero, List.set_cons_succ])
  refine wpAnyH_take (i := 7) (oi := ⟨some 116, _, _, _, _, _⟩) (v := .bool true) rfl (by decide +kernel) (by decide +kernel) (by decide +kernel) (fun _ _ _ h => h) (Or.inl ⟨by rfl, ?_⟩) (by assumption) ?_
  skip
  ·intro wq hSw; (try dsimp only at hSw); go_simp; (first | done | rw [hd1] | simp [hd1] | exact hd1)
  (try simp only [Act.put, List.setIfInBounds_toArray, List.set_cons_zero, List.set_cons_succ])
  refine wpAnyH_take (i := 8) (oi := ⟨some 117, _, _, _, _, _⟩) (v := ?_) rfl (by decide +kernel) (by decide +kernel) (by decide +kernel) (fun _ _ _ h => h) (Or.inl ⟨by rfl, ?_⟩) (by assumption) ?_
  rotate_left
  ·intro wq hSw; (try dsimp only at hSw); go_simp; (try with_reducible rfl)
  (try simp only [Act.put, List.setIfInBounds_toArray, List.set_cons_zero, List.set_cons_succ])
  refine wpAnyH_take (i := 9) (oi := ⟨some 118, _, _, _, _, _⟩) (v := ?_) rfl (by decide +kernel) (by decide +kernel) (by decide +kernel) (fun _ _ _ h => h) (Or.inl ⟨by rfl, ?_⟩) (by assumption) ?_
  rotate_left
  ·intro wq hSw; (try dsimp only at hSw); go_simp; (try with_reducible rfl)
  (try simp only [Act.put, List.setIfInBounds_toArray, List.set_cons_zero, List.set_cons_succ])
  refine wpAnyH_take (i := 10) (oi := ⟨some 119, _, _, _, _, _⟩) (v := ?_) rfl (by decide +kernel) (by decide +kernel) (by decide +kernel) (fun _ _ _ h => h) (Or.inl ⟨by rfl, ?_⟩) (by assumption) ?_
  rotate_left
  ·intro wq hSw; (try dsimp only at hSw); go_simp; (try with_reducible rfl)
  (try simp only [Act.put, List.setIfInBounds_toArray, List.set_cons_zero, List.set_cons_succ])
  refine wpAnyH_take (i := 11) (oi := ⟨some 120, _, _, _, _, _⟩) (v := ?_) rfl (by decide +kernel) (by decide +kernel) (by decide +kernel) (fun _ _ _ h => h) (Or.inl ⟨by rfl, ?_⟩) (by assumption) ?_
  rotate_left
  ·intro wq hSw; (try dsimp only at hSw); go_simp; (try with_reducible rfl)
  (try simp only [Act.put, List.setIfInBounds_toArray, List.set_cons_zero, List.set_cons_succ])
  refine wpAnyH_take (i := 12) (oi := ⟨some 121, _, _, _, _, _⟩) (v := ?_) rfl (by decide +kernel) (by decide +kernel) (by decide +kernel) (fun _ _ _ h => h) (Or.inl ⟨by rfl, ?_⟩) (by assumption) ?_
  rotate_left
  ·intro wq hSw; (try dsimp only at hSw); go_simp; (try with_reducible rfl)
  (try simp only [Act.put, List.setIfInBounds_toArray, List.set_cons_zero, List.set_cons_succ])
  refine wpAnyH_take (i := 13) (oi := ⟨some 122, _, _, _, _, _⟩) (v := ?_) rfl (by decide +kernel) (by decide +kernel) (by decide +kernel) (fun _ _ _ h => h) (Or.inl ⟨by rfl, ?_⟩) (by assumption) ?_
  rotate_left
  ·intro wq hSw; (try dsimp only at hSw); go_simp; (try with_reducible rfl)
  (try simp only [Act.put, List.setIfInBounds_toArray, List.set_cons_zero, List.set_cons_succ])
  refine wpAnyH_take (i := 14) (oi := ⟨some 123, _, _, _, _, _⟩) (v := ?_) rfl (by decide +kernel) (by decide +kernel) (by decide +kernel) (fun _ _ _ h => h) (Or.inl ⟨by rfl, ?_⟩) (by assumption) ?_
  rotate_left
  ·intro wq hSw; (try dsimp only at hSw); go_simp; (try with_reducible rfl)
  (try simp only [Act.put, List.setIfInBounds_toArray, List.set_cons_zero, List.set_cons_succ])
  refine wpAnyH_ready (rs := [15]) (by decide +kernel) (by simp) ?_
  refine AllReadyH.cons (i := 15) (o := ⟨some 124, _, _, _, _, _⟩) rfl (fun K hK => ?_) AllReadyH.nil
  go_simp
  go_at_call 36; refine Calls.mono (num_n (1) (by decide) (by decide) _) ?_; rintro e wkv1 ⟨v1, rfl, v1h, kv1, v1l⟩
  have kW := grow_step kv1 kW
  try go_wp2_with fail
  refine hK.out _ _ ?_ ?_
  ·first | with_reducible exact trivial | ((try dsimp only); exact ⟨⟨(yB.out.below kW).c0, (yB.out.below kW).c1⟩, ⟨(y6.out.below kW).c0, (y6.out.below kW).c1⟩, ⟨(y13.out.below kW).c0, (y13.out.below kW).c1⟩⟩)
  clear hK K hHeld; intro hHeld
  (try simp only [Act.put, List.setIfInBounds_toArray, List.set_cons_zero, List.set_cons_succ])
  refine wpAnyH_ready (rs := [16]) (by decide +kernel) (by simp) ?_
  refine AllReadyH.cons (i := 16) (o := ⟨some 125, _, _, _, _, _⟩) rfl (fun K hK => ?_) AllReadyH.nil
  go_simp
  go_at_call 23; refine Calls.mono (ints19_zn (z := zk) (y := v1) (hzk.out.below kW) v1h) ?_; rintro e wkE ⟨rfl, kE⟩
  have kW := grow_step kE kW
  try go_wp2_with fail
  refine hK.out _ _ ?_ ?_
  ·first | with_reducible exact trivial | ((try dsimp only); exact ⟨⟨(yB.out.below kW).c0, (yB.out.below kW).c1⟩, ⟨(y6.out.below kW).c0, (y6.out.below kW).c1⟩, ⟨(y13.out.below kW).c0, (y13.out.below kW).c1⟩⟩)
  clear hK K hHeld; intro hHeld
  (try simp only [Act.put, List.setIfInBounds_toArray, List.set_cons_zero, List.set_cons_succ])
  refine wpAnyH_take (i := 17) (oi := ⟨some 126, _, _, _, _, _⟩) (v := ?_) rfl (by decide +kernel) (by decide +kernel) (by decide +kernel) (fun _ _ _ h => h) (Or.inl ⟨by rfl, ?_⟩) (by assumption) ?_
  rotate_left
  ·intro wq hSw; (try dsimp only at hSw); go_simp; (try with_reducible rfl)
  (try simp only [Act.put, List.setIfInBounds_toArray, List.set_cons_zero, List.set_cons_succ])
  refine wpAnyH_take (i := 18) (oi := ⟨some 4, _, _, _, _, _⟩) (v := ?_) rfl (by decide +kernel) (by decide +kernel) (by decide +kernel) (fun _ _ _ h => h) (Or.inl ⟨by rfl, ?_⟩) (by assumption) ?_
  rotate_left
  ·intro wq hSw; (try dsimp only at hSw); go_simp; (try with_reducible rfl)
  (try simp only [Act.put, List.setIfInBounds_toArray, List.set_cons_zero, List.set_cons_succ])
  refine wpAnyH_done ?_ ?_ _
  ·decide +kernel
  have kz := hide (grow_step kW k8.out)
  clear kW hHeld
  go_wp2
  exact bodyPost_ret (results_tmp rfl _ _ _) rfl ⟨rfl, kz.out⟩
 | false =>
  have hv1 := hX2.out.2 rfl
  have hcn : Hid (cntI (mem D) (x - d) x = 0) := hide (cntI_zero fun u _ h1 => hv1 u (by omega))
  clear hX2 hv1
  go_upto_region 19 with (fail)
  refine wp_region_held_drew (S := (fun w' => (w'.cell? ⟨b6, 0, none⟩ = some (.bool za.s) ∧ w'.cell? ⟨b6, 1, none⟩ = some (.slice za.a za.l za.c)) ∧ (w'.cell? ⟨b10, 0, none⟩ = some (.bool sd) ∧ w'.cell? ⟨b10, 1, none⟩ = some (.slice ad ld cd)))) (by kernel_rfl) (⟨⟨(y6.out.below (grow_drew (Below.refl _ _))).c0, (y6.out.below (grow_drew (Below.refl _ _))).c1⟩, ⟨(yd.out.below (grow_drew (Below.refl _ _))).c0, (yd.out.below (grow_drew (Below.refl _ _))).c1⟩⟩) (fun hHeld => ?_)
  show wpAnyH _ _ _ _ _ 12 _ _ _
  have kW := grow_drew (Below.refl wB.heap.size wB)
  generalize wB.drew = wQ at *
  repeat' first
   | with_reducible exact AllReadyH.nil
   | (
    refine wpAnyH_take (i := 0) (oi := ⟨some 128, _, _, _, _, _⟩) (v := ?_) rfl (by decide +kernel) (by decide +kernel) (by decide +kernel) (fun _ _ _ h => h) (Or.inl ⟨by rfl, ?_⟩) (by assumption) ?_
    rotate_left
    ·intro wq hSw; (try dsimp only at hSw); go_simp; (try with_reducible rfl)
    (try simp only [Act.put, List.setIfInBounds_toArray, List.set_cons_zero, List.set_cons_succ]))
   | (
    refine wpAnyH_take (i := 1) (oi := ⟨some 129, _, _, _, _, _⟩) (v := ?_) rfl (by decide +kernel) (by decide +kernel) (by decide +kernel) (fun _ _ _ h => h) (Or.inl ⟨by rfl, ?_⟩) (by assumption) ?_
    rotate_left
    ·intro wq hSw; (try dsimp only at hSw); go_simp; (try with_reducible rfl)
    (try simp only [Act.put, List.setIfInBounds_toArray, List.set_cons_zero, List.set_cons_succ]))
   | (
    refine wpAnyH_take (i := 2) (oi := ⟨some 130, _, _, _, _, _⟩) (v := ?_) rfl (by decide +kernel) (by decide +kernel) (by decide +kernel) (fun _ _ _ h => h) (Or.inl ⟨by rfl, ?_⟩) (by assumption) ?_
    rotate_left
    ·intro wq hSw; (try dsimp only at hSw); go_simp; (try with_reducible rfl)
    (try simp only [Act.put, List.setIfInBounds_toArray, List.set_cons_zero, List.set_cons_succ]))
   | (
    refine wpAnyH_take (i := 4) (oi := ⟨some 132, _, _, _, _, _⟩) (v := ?_) rfl (by decide +kernel) (by decide +kernel) (by decide +kernel) (fun _ _ _ h => h) (Or.inl ⟨by rfl, ?_⟩) (by assumption) ?_
    rotate_left
    ·intro wq hSw; (try dsimp only at hSw); go_simp; (try with_reducible rfl)
    (try simp only [Act.put, List.setIfInBounds_toArray, List.set_cons_zero, List.set_cons_succ]))
   | (
    refine wpAnyH_take (i := 6) (oi := ⟨some 127, _, _, _, _, _⟩) (v := ?_) rfl (by decide +kernel) (by decide +kernel) (by decide +kernel) (fun _ _ _ h => h) (Or.inl ⟨by rfl, ?_⟩) (by assumption) ?_
    rotate_left
    ·intro wq hSw; (try dsimp only at hSw); go_simp; (try with_reducible rfl)
    (try simp only [Act.put, List.setIfInBounds_toArray, List.set_cons_zero, List.set_cons_succ]))
   | (
    refine wpAnyH_take (i := 7) (oi := ⟨some 134, _, _, _, _, _⟩) (v := ?_) rfl (by decide +kernel) (by decide +kernel) (by decide +kernel) (fun _ _ _ h => h) (Or.inl ⟨by rfl, ?_⟩) (by assumption) ?_
    rotate_left
    ·intro wq hSw; (try dsimp only at hSw); go_simp; (try with_reducible rfl)
    (try simp only [Act.put, List.setIfInBounds_toArray, List.set_cons_zero, List.set_cons_succ]))
   | (
    refine wpAnyH_take (i := 8) (oi := ⟨some 135, _, _, _, _, _⟩) (v := ?_) rfl (by decide +kernel) (by decide +kernel) (by decide +kernel) (fun _ _ _ h => h) (Or.inl ⟨by rfl, ?_⟩) (by assumption) ?_
    rotate_left
    ·intro wq hSw; (try dsimp only at hSw); go_simp; (try with_reducible rfl)
    (try simp only [Act.put, List.setIfInBounds_toArray, List.set_cons_zero, List.set_cons_succ]))
   | (
    refine wpAnyH_take (i := 11) (oi := ⟨some 20, _, _, _, _, _⟩) (v := ?_) rfl (by decide +kernel) (by decide +kernel) (by decide +kernel) (fun _ _ _ h => h) (Or.inl ⟨by rfl, ?_⟩) (by assumption) ?_
    rotate_left
    ·intro wq hSw; (try dsimp only at hSw); go_simp; (try with_reducible rfl)
    (try simp only [Act.put, List.setIfInBounds_toArray, List.set_cons_zero, List.set_cons_succ]))
   | (refine wpAnyH_ready (rs := [3, 9]) ?_ ?_ ?_; decide +kernel; simp)
   | (refine wpAnyH_ready (rs := [5, 9]) ?_ ?_ ?_; decide +kernel; simp)
   | (refine wpAnyH_ready (rs := [9]) ?_ ?_ ?_; decide +kernel; simp)
   | (refine wpAnyH_ready (rs := [10]) ?_ ?_ ?_; decide +kernel; simp)
   | (refine wpAnyH_ready (rs := [5]) ?_ ?_ ?_; decide +kernel; simp)
   | (refine wpAnyH_ready (rs := [3]) ?_ ?_ ?_; decide +kernel; simp)
   | (
    first
     | (
      refine AllReadyH.cons (i := 3) (o := ⟨some 131, _, _, _, _, _⟩) rfl (fun K hK => ?_) ?_
      go_simp
      go_at_call 39; refine Calls.mono (rsub2_n (ha.out.below kW) (hd.out.below kW).zm (by omega) (by omega)) ?_; rintro e wkA ⟨sA, aA, lA, cA, rfl, hzA, kA, hlA⟩
      try have z19 := z19.below kA
      have kW := grow_step kA kW
      try go_wp2_with fail)
     | (
      refine AllReadyH.cons (i := 5) (o := ⟨some 133, _, _, _, _, _⟩) rfl (fun K hK => ?_) ?_
      go_simp
      go_at_call 22; refine Calls.mono (Count_n (zl := ⟨sA, aA, lA, cA⟩) (pD.out.below kW) (by omega) hzA.zm (by show lA ≤ _; omega) (ha.out.below kW) (by omega)) ?_; rintro e wkB ⟨zk, rfl, hzk, hkl, kB⟩
      rw [hcn.out] at hzk
      try have z19 := z19.below kB
      have kW := grow_step kB kW
      try go_wp2_with fail)
     | (
      refine AllReadyH.cons (i := 9) (o := ⟨some 19, _, _, _, _, _⟩) rfl (fun K hK => ?_) ?_
      obtain ⟨wL, b19, eL, eb19, z19, hb19, kL, kW⟩ := al_b kW (.cells #[.bool false, .slice none 0 0] 38)
      replace z19 : ZB wL b19 false none 0 0 := z19
      try have hzA := hzA.below kL
      try have hzk := hzk.below kL
      go_simp
      rw [eL.out]
      (try simp only [eb19.out]))
     | (
      refine AllReadyH.cons (i := 10) (o := ⟨none, _, _, _, _, _⟩) rfl (fun K hK => ?_) ?_
      have f0 := z19.c0
      have f1 := z19.c1
      have f2 := z19.f 0
      have f3 := z19.f 1
      obtain ⟨w8x, e8, z19, kZ, hzn, hzb⟩ := fst_z kW hb19 z19 zk.s zk.a zk.l zk.c
      have hzk := hzn _ _ _ _ _ hzk
      go_simp
      rw [e8.out]
      clear f0 f1 f2 f3 hzn hzb
      have kW := kZ)
    refine hK.out _ _ ?_ ?_
    ·first | with_reducible exact trivial | ((try dsimp only); exact ⟨⟨(y6.out.below kW).c0, (y6.out.below kW).c1⟩, ⟨(yd.out.below kW).c0, (yd.out.below kW).c1⟩⟩)
    clear hK K hHeld; intro hHeld
    (try simp only [Act.put, List.setIfInBounds_toArray, List.set_cons_zero, List.set_cons_succ]))
  all_goals
   refine wpAnyH_done ?_ ?_ _
   ·decide +kernel
   replace hzk := hide hzk
   have y15 := hide z19
   have k8 := hide (grow_step kW kw.out)
   clear kW hHeld hzA z19 e8
   go_upto_region 20 with (fail)
   generalize w8x = wC at *
   refine wp_region_held_drew (S := (fun w' => (w'.cell? ⟨b19, 0, none⟩ = some (.bool zk.s) ∧ w'.cell? ⟨b19, 1, none⟩ = some (.slice zk.a zk.l zk.c)))) (by kernel_rfl) (⟨(y15.out.below (grow_drew (Below.refl _ _))).c0, (y15.out.below (grow_drew (Below.refl _ _))).c1⟩) (fun hHeld => ?_)
   show wpAnyH _ _ _ _ _ 8 _ _ _
   have kW := grow_drew (Below.refl wC.heap.size wC)
   generalize wC.drew = wQ at *
   refine wpAnyH_take (i := 0) (oi := ⟨some 136, _, _, _, _, _⟩) (v := ?_) rfl (by decide +kernel) (by decide +kernel) (by decide +kernel) (fun _ _ _ h => h) (Or.inl ⟨by rfl, ?_⟩) (by assumption) ?_
   rotate_left
   ·intro wq hSw; (try dsimp only at hSw); go_simp; (try with_reducible rfl)
   (try simp only [Act.put, List.setIfInBounds_toArray, List.set_cons_zero, List.set_cons_succ])
   refine wpAnyH_take (i := 1) (oi := ⟨some 137, _, _, _, _, _⟩) (v := ?_) rfl (by decide +kernel) (by decide +kernel) (by decide +kernel) (fun _ _ _ h => h) (Or.inl ⟨by rfl, ?_⟩) (by assumption) ?_
   rotate_left
   ·intro wq hSw; (try dsimp only at hSw); go_simp; (try with_reducible rfl)
   (try simp only [Act.put, List.setIfInBounds_toArray, List.set_cons_zero, List.set_cons_succ])
   refine wpAnyH_take (i := 2) (oi := ⟨some 138, _, _, _, _, _⟩) (v := ?_) rfl (by decide +kernel) (by decide +kernel) (by decide +kernel) (fun _ _ _ h => h) (Or.inl ⟨by rfl, ?_⟩) (by assumption) ?_
   rotate_left
   ·intro wq hSw; (try dsimp only at hSw); go_simp; (try with_reducible rfl)
   (try simp only [Act.put, List.setIfInBounds_toArray, List.set_cons_zero, List.set_cons_succ])
   refine wpAnyH_take (i := 3) (oi := ⟨some 139, _, _, _, _, _⟩) (v := ?_) rfl (by decide +kernel) (by decide +kernel) (by decide +kernel) (fun _ _ _ h => h) (Or.inl ⟨by rfl, ?_⟩) (by assumption) ?_
   rotate_left
   ·intro wq hSw; (try dsimp only at hSw); go_simp; (try with_reducible rfl)
   (try simp only [Act.put, List.setIfInBounds_toArray, List.set_cons_zero, List.set_cons_succ])
   refine wpAnyH_ready (rs := [4]) (by decide +kernel) (by simp) ?_
   refine AllReadyH.cons (i := 4) (o := ⟨some 140, _, _, _, _, _⟩) rfl (fun K hK => ?_) AllReadyH.nil
   go_simp
   go_at_call 36; refine Calls.mono (num_n (0) (by decide) (by decide) _) ?_; rintro e wkv1 ⟨v1, rfl, v1h, kv1, v1l⟩
   have kW := grow_step kv1 kW
   try go_wp2_with fail
   refine hK.out _ _ ?_ ?_
   ·first | with_reducible exact trivial | ((try dsimp only); exact ⟨(y15.out.below kW).c0, (y15.out.below kW).c1⟩)
   clear hK K hHeld; intro hHeld
   (try simp only [Act.put, List.setIfInBounds_toArray, List.set_cons_zero, List.set_cons_succ])
   refine wpAnyH_ready (rs := [5]) (by decide +kernel) (by simp) ?_
   refine AllReadyH.cons (i := 5) (o := ⟨some 141, _, _, _, _, _⟩) rfl (fun K hK => ?_) AllReadyH.nil
   go_simp
   go_at_call 23; refine Calls.mono (ints19_zn (z := zk) (y := v1) (hzk.out.below kW) v1h) ?_; rintro e wkE ⟨rfl, kE⟩
   have kW := grow_step kE kW
   try go_wp2_with fail
   refine hK.out _ _ ?_ ?_
   ·first | with_reducible exact trivial | ((try dsimp only); exact ⟨(y15.out.below kW).c0, (y15.out.below kW).c1⟩)
   clear hK K hHeld; intro hHeld
   (try simp only [Act.put, List.setIfInBounds_toArray, List.set_cons_zero, List.set_cons_succ])
   refine wpAnyH_take (i := 6) (oi := ⟨some 142, _, _, _, _, _⟩) (v := ?_) rfl (by decide +kernel) (by decide +kernel) (by decide +kernel) (fun _ _ _ h => h) (Or.inl ⟨by rfl, ?_⟩) (by assumption) ?_
   rotate_left
   ·intro wq hSw; (try dsimp only at hSw); go_simp; (try with_reducible rfl)
   (try simp only [Act.put, List.setIfInBounds_toArray, List.set_cons_zero, List.set_cons_succ])
   refine wpAnyH_take (i := 7) (oi := ⟨some 4, _, _, _, _, _⟩) (v := ?_) rfl (by decide +kernel) (by decide +kernel) (by decide +kernel) (fun _ _ _ h => h) (Or.inl ⟨by rfl, ?_⟩) (by assumption) ?_
   rotate_left
   ·intro wq hSw; (try dsimp only at hSw); go_simp; (try with_reducible rfl)
   (try simp only [Act.put, List.setIfInBounds_toArray, List.set_cons_zero, List.set_cons_succ])
   refine wpAnyH_done ?_ ?_ _
   ·decide +kernel
   have kz := hide (grow_step kW k8.out)
   clear kW hHeld
   go_wp2
   exact bodyPost_ret (results_tmp rfl _ _ _) rfl ⟨rfl, kz.out⟩
end Pd
end Go.Proofs.YtmiannlcfommpaaGreat
