/-
  The law MeterPlays: its walk.
-/
import Derived.Test.YtofjjpkbildagaaMD
namespace Go.Proofs.Ytofjjpkbildagaa
open Go.RowKit Mt

theorem sk7e {w w' : World} {r : Nat} {n k c e : Int} (h : RB w r n k c e) (g : Below w.heap.size w w') :
    w'.cell? ⟨r, 2, none⟩ = some (.int .i64 c) ∧ w'.cell? ⟨r, 3, none⟩ = some (.int .i64 e) ∧ Below w.heap.size w w' := ⟨(h.below g).c2, (h.below g).c3, g⟩

set_option maxRecDepth 100000 in
set_option maxHeartbeats 6400000 in
theorem meterPlays_walk {w : World} {nodes limbs : Int} {ad : Option Addr} {m cp : Nat} {L : List Stp} {B : Nat} (n0 : -9223372036854775808 ≤ nodes) (n1 : nodes ≤ 9223372036854775807) (l0 : -9223372036854775808 ≤ limbs) (l1 : limbs ≤ 9223372036854775807) (hS : SL w ad m L B) (hm : m ≤ 1048576) (hB : B ≤ 1048576) :
    Calls Try.prog 4 #[.int .i64 nodes, .int .i64 limbs, .slice ad m cp] w fun x w' => x = .returned (.bool true) ∧ Below w.heap.size w w' := by
  go_enter Try.func4, Try.ntmps4
  go_wp2_with fail
  refine (pick7_n n0 n1 (by decide) (by decide)).mono ?_
  rintro x w1 ⟨n, rfl, hn0, hn1, k1⟩
  replace k1 := hide k1
  clear n0 n1
  go_wp2_with fail
  refine (pick7_n l0 l1 (by decide) (by decide)).mono ?_
  rintro x w2 ⟨k, rfl, hk0, hk1, k2⟩
  replace k2 := hide (step7 k2 k1.out)
  clear l0 l1 k1
  go_wp2_with fail
  refine (new_n (by omega) (by omega) (by omega) (by omega)).mono ?_
  rintro x w3 ⟨rfl, m3, k3⟩
  replace k3 := hide (step7 k3 k2.out)
  have hbw := k2.out.size
  clear k2
  generalize w2.heap.size = b at *
  go_wp2_with fail
  refine refnew_n.mono ?_
  rintro x w4 ⟨rfl, r4, k4⟩
  have m4 := m3.below k4
  have hne : b ≠ w3.heap.size := Nat.ne_of_lt m3.lt
  have hrw := k3.out.size
  replace k4 := hide (step7 k4 k3.out)
  clear m3 k3
  generalize w3.heap.size = r at *
  replace r4 : RB w4 r (1 + n) (1 + k) 0 0 := r4
  go_wp2_with fail
  refine (known7_n w4).mono ?_
  rintro x w5 ⟨rfl, k5⟩
  have m5 := m4.below k5
  have r5 := r4.below k5
  replace k5 := hide (step7 k5 k4.out)
  clear m4 r4 k4
  go_wp2_with fail
  generalize hN : 1 + n = N at *
  generalize hK : 1 + k = K at *
  have hN2 : N ≤ 2000 := by omega
  have hN3 : 0 ≤ N := by omega
  clear hN hK hn0 hn1 hk0 hk1
  go_loopw [12] (fun i wr => ∃ (t : Nat) (c e : Int), t ≤ m ∧ i = .int .i64 t ∧ Hid (St7 N c e) ∧ Hid (MB wr b N K c e) ∧ Hid (RB wr r N K c e) ∧ Hid (Below w.heap.size w wr)) (fun i _ => m - (intOf i).toNat)
  case atStart => exact ⟨0, 0, 0, Nat.zero_le _, rfl, ⟨Int.le_refl _, hN3, hN2, .inl rfl⟩, m5, r5, k5.out⟩
  case round =>
    clear m5 r5 k5
    obtain ⟨t, c, e, ht, rfl, hst, hM, hR, kr⟩ := hrel
    by_cases htm : t < m
    · have hLl := hS.1
      obtain ⟨-, hLL⟩ := hS.below kr.out
      rcases hLL with h0 | ⟨bp, op, rfl, hLL⟩
      · omega
      · obtain ⟨a, l, cc, e0, e1, e2, hNL, hl⟩ := hLL t (by omega)
        clear hLL
        generalize L[t] = xx at *
        obtain ⟨xs, xN, xQ⟩ := xx
        dsimp only at *
        have hx := XB.new wr xs xN a l cc
        have kx := below_alloc7 wr (.cells #[.bool xs, .int .i64 xN, .slice a l cc] 36)
        have HX := hide (And.intro hx (And.intro (step7 kx kr.out) (And.intro (hM.out.below kx) (And.intro (hR.out.below kx) (hNL.below kx)))))
        have hpb : wr.heap.size ≠ b := Nat.ne_of_gt hM.out.lt
        have hpr : wr.heap.size ≠ r := Nat.ne_of_gt hR.out.lt
        clear hx kx hNL hM hR
        cases xs with
        | true =>
          go_wp2_with fail
          obtain ⟨hx, kx, hM, hR, -⟩ := HX.out
          clear HX
          refine (spend_a hM hst.out).mono ?_
          rintro x w6 ⟨rfl, m6, g6⟩
          have x6 := hx.but g6 hpb
          have r6 := hR.but g6 (Ne.symm hne)
          have y1 := x6.c1
          have K6 := hide (kx.trans (g6.below hbw kx.size))
          have st6 := hst.out.spend xN
          have hst0 := hst
          clear hx hM hR g6 kx hst
          go_wp2_with fail
          refine (refspend_a r6 hst0.out).mono ?_
          rintro x w8 ⟨rfl, hR, g8⟩
          have hM := m6.but g8 hne
          have K8 := hide (K6.out.trans (g8.below hrw K6.out.size))
          clear y1 x6 r6 m6 g8 K6 hst0
          have hst := st6
          clear st6
          generalize mspend N c e xN = z at *
          obtain ⟨c', e', rv⟩ := z
          dsimp only at *
          go_wp2_with fail
          go_region_held3 (fun w' => w'.cell? ⟨r, 2, none⟩ = some (.int .i64 c') ∧ w'.cell? ⟨r, 3, none⟩ = some (.int .i64 e') ∧ Below w8.heap.size w8 w')
            ((refine sk7e hR ?_; (repeat' (first | with_reducible exact Below.refl _ _ | with_reducible assumption | with_reducible refine step7 (by with_reducible assumption) ?_ | with_reducible refine g7_drew ?_ | with_reducible refine g7_alloc ?_ _ | with_reducible refine g7_drewN ?_ _))))
            (first | (go_at_call 9; with_reducible refine (spent_a (MB.below hM (by (repeat' (first | with_reducible exact Below.refl _ _ | with_reducible assumption | with_reducible refine step7 (by with_reducible assumption) ?_ | with_reducible refine g7_drew ?_ | with_reducible refine g7_alloc ?_ _ | with_reducible refine g7_drewN ?_ _)))) hst).mono ?_; rintro x w9 ⟨rfl, hg⟩) | (go_at_call 10; with_reducible refine (over_a (MB.below hM (by (repeat' (first | with_reducible exact Below.refl _ _ | with_reducible assumption | with_reducible refine step7 (by with_reducible assumption) ?_ | with_reducible refine g7_drew ?_ | with_reducible refine g7_alloc ?_ _ | with_reducible refine g7_drewN ?_ _)))) hst).mono ?_; rintro x w10 ⟨rfl, hg2⟩))
          rename_i hH
          have kf := hH.2.2
          have hMf := hide (hM.below kf)
          have hRf := hide (hR.below kf)
          replace kf := hide (K8.out.trans (kf.mono K8.out.size))
          clear hH hg hM hR K8
          go_wp2
          go_round
          case rel => exact ⟨t + 1, c', e', by omega, by go_num, hst, hMf.out, hRf.out, kf.out⟩
          case measure => simp [intOf]; omega
        | false =>
          go_wp2_with fail
          obtain ⟨hx, kx, hM, hR, hNL⟩ := HX.out
          clear HX
          refine (lent_n hNL hB (by omega)).mono ?_
          rintro x w5' ⟨ad', cp', rfl, hN5, k5⟩
          have x5 := hx.below k5
          have M5 := hM.below k5
          have R5 := hR.below k5
          have q5 := hNL.below k5
          have K5 := hide (step7 k5 kx)
          clear hx hM hR hNL kx k5
          go_wp2_with fail
          refine (node_a M5 hN5 hB (by omega) hst.out).mono ?_
          rintro x w6 ⟨rfl, m6, g6⟩
          have x6 := x5.but g6 hpb
          have r6 := R5.but g6 (Ne.symm hne)
          have n6 := hN5.but M5.intB g6
          have q6 := q5.but M5.intB g6
          have y1 := x6.c2
          have K6 := hide (K5.out.trans (g6.below hbw K5.out.size))
          have st6 := hst.out.node (k := K) xQ
          have hst0 := hst
          clear x5 M5 R5 q5 g6 hst K5
          go_wp2_with fail
          refine (refnode_a r6 q6 hB (by omega) hst0.out).mono ?_
          rintro x w7 ⟨rfl, hR, g8⟩
          have m7 := m6.but g8 hne
          have x7 := x6.but g8 hpr
          have n7 := n6.but r6.intB g8
          have q7 := q6.but r6.intB g8
          have K7 := hide (K6.out.trans (g8.below hrw K6.out.size))
          clear y1 x6 r6 m6 n6 q6 g8 K6 hst0
          have y1 := x7.c2
          go_wp2_with fail
          refine (kept_n n7 q7 hB (by omega)).mono ?_
          rintro x w8 ⟨rfl, k8⟩
          have hM := m7.below k8
          replace hR := hR.below k8
          have K8 := hide (K7.out.trans (k8.mono K7.out.size))
          clear y1 x7 m7 n7 q7 k8 K7
          have hst := st6
          clear st6
          generalize mnode N K c e xQ = z at *
          obtain ⟨c', e', rv⟩ := z
          dsimp only at *
          go_wp2_with fail
          go_region_held3 (fun w' => w'.cell? ⟨r, 2, none⟩ = some (.int .i64 c') ∧ w'.cell? ⟨r, 3, none⟩ = some (.int .i64 e') ∧ Below w8.heap.size w8 w')
            ((refine sk7e hR ?_; (repeat' (first | with_reducible exact Below.refl _ _ | with_reducible assumption | with_reducible refine step7 (by with_reducible assumption) ?_ | with_reducible refine g7_drew ?_ | with_reducible refine g7_alloc ?_ _ | with_reducible refine g7_drewN ?_ _))))
            (first | (go_at_call 9; with_reducible refine (spent_a (MB.below hM (by (repeat' (first | with_reducible exact Below.refl _ _ | with_reducible assumption | with_reducible refine step7 (by with_reducible assumption) ?_ | with_reducible refine g7_drew ?_ | with_reducible refine g7_alloc ?_ _ | with_reducible refine g7_drewN ?_ _)))) hst).mono ?_; rintro x w9 ⟨rfl, hg⟩) | (go_at_call 10; with_reducible refine (over_a (MB.below hM (by (repeat' (first | with_reducible exact Below.refl _ _ | with_reducible assumption | with_reducible refine step7 (by with_reducible assumption) ?_ | with_reducible refine g7_drew ?_ | with_reducible refine g7_alloc ?_ _ | with_reducible refine g7_drewN ?_ _)))) hst).mono ?_; rintro x w10 ⟨rfl, hg2⟩))
          rename_i hH
          have kf := hH.2.2
          have hMf := hide (hM.below kf)
          have hRf := hide (hR.below kf)
          replace kf := hide (K8.out.trans (kf.mono K8.out.size))
          clear hH hg hM hR K8
          go_wp2
          go_round
          case rel => exact ⟨t + 1, c', e', by omega, by go_num, hst, hMf.out, hRf.out, kf.out⟩
          case measure => simp [intOf]; omega
    · obtain rfl : t = m := by omega
      go_wp2
      go_ret
      exact ⟨rfl, kr.out⟩
end Go.Proofs.Ytofjjpkbildagaa
