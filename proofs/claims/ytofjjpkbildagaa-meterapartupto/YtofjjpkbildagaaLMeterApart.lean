/-
  The law MeterApart: its walk.
-/
import Derived.Test.YtofjjpkbildagaaMD
namespace Go.Proofs.Ytofjjpkbildagaa
open Go.RowKit Mt

theorem sk7f {w w' : World} {r s : Nat} {n k c e n2 k2 c2 e2 : Int} (h : RB w r n k c e) (h2 : RB w s n2 k2 c2 e2) (g : Below w.heap.size w w') :
    w'.cell? ⟨r, 2, none⟩ = some (.int .i64 c) ∧ w'.cell? ⟨r, 3, none⟩ = some (.int .i64 e) ∧ w'.cell? ⟨s, 2, none⟩ = some (.int .i64 c2) ∧ w'.cell? ⟨s, 3, none⟩ = some (.int .i64 e2) ∧ Below w.heap.size w w' := ⟨(h.below g).c2, (h.below g).c3, (h2.below g).c2, (h2.below g).c3, g⟩

set_option maxRecDepth 100000 in
set_option maxHeartbeats 6400000 in
theorem meterApart_walk {w : World} {nodes : Int} {ad ad2 : Option Addr} {m cp m2 cp2 : Nat} {L L2 : List Stp} {B : Nat} (n0 : -9223372036854775808 ≤ nodes) (n1 : nodes ≤ 9223372036854775807) (hS : SL w ad m L B) (hm : m ≤ 1048576) (hS2 : SL w ad2 m2 L2 B) (hm2 : m2 ≤ 1048576) (hB : B ≤ 1048576) :
    Calls Try.prog 6 #[.slice ad m cp, .slice ad2 m2 cp2, .int .i64 nodes] w fun x w' => x = .returned (.bool true) ∧ Below w.heap.size w w' := by
  go_enter Try.func6, Try.ntmps6
  go_wp2_with fail
  refine (pick7_n n0 n1 (by decide) (by decide)).mono ?_
  rintro x w1 ⟨n, rfl, hn0, hn1, k1⟩
  replace k1 := hide k1
  clear n0 n1
  go_wp2_with fail
  refine (new_n (by omega) (by omega) (by decide) (by decide)).mono ?_
  rintro x w2 ⟨rfl, m2', k2⟩
  have hbw := k1.out.size
  replace k2 := hide (step7 k2 k1.out)
  clear k1
  generalize w1.heap.size = b at *
  go_wp2_with fail
  refine (new_n (by omega) (by omega) (by decide) (by decide)).mono ?_
  rintro x w3 ⟨rfl, o3, k3⟩
  have m3 := m2'.below k3
  have hne1 : b ≠ w2.heap.size := Nat.ne_of_lt m2'.lt
  have how := k2.out.size
  replace k3 := hide (step7 k3 k2.out)
  clear m2' k2
  generalize w2.heap.size = o at *
  go_wp2_with fail
  refine (known7_n w3).mono ?_
  rintro x w4 ⟨rfl, k4⟩
  have m4 := m3.below k4
  have o4 := o3.below k4
  replace k4 := hide (step7 k4 k3.out)
  clear m3 o3 k3
  go_wp2_with fail
  refine refnew_n.mono ?_
  rintro x w5 ⟨rfl, r5, k5⟩
  have m5 := m4.below k5
  have o5 := o4.below k5
  have hne2 : b ≠ w4.heap.size := Nat.ne_of_lt m4.lt
  have hne3 : o ≠ w4.heap.size := Nat.ne_of_lt o4.lt
  have hrw := k4.out.size
  replace k5 := hide (step7 k5 k4.out)
  clear m4 o4 k4
  generalize w4.heap.size = r at *
  replace r5 : RB w5 r (1 + n) 2 0 0 := r5
  go_wp2_with fail
  refine refnew_n.mono ?_
  rintro x w6 ⟨rfl, s6, k6⟩
  have m6 := m5.below k6
  have o6 := o5.below k6
  have r6 := r5.below k6
  have hne4 : b ≠ w5.heap.size := Nat.ne_of_lt m5.lt
  have hne5 : o ≠ w5.heap.size := Nat.ne_of_lt o5.lt
  have hne6 : r ≠ w5.heap.size := Nat.ne_of_lt r5.lt
  have hsw := k5.out.size
  replace k6 := hide (step7 k6 k5.out)
  clear m5 o5 r5 k5
  generalize w5.heap.size = s at *
  replace s6 : RB w6 s (1 + n) 2 0 0 := s6
  generalize hN : 1 + n = N at *
  have hN2 : N ≤ 2000 := by omega
  have hN3 : 0 ≤ N := by omega
  clear hN hn0 hn1
  go_wp2_with fail
  go_loopw [14] (fun i wr => ∃ (t : Nat) (c e c2 e2 : Int), (t ≤ m ∨ t ≤ m2) ∧ i = .int .i64 t ∧ Hid (St7 N c e) ∧ Hid (MB wr b N 2 c e) ∧ Hid (RB wr r N 2 c e) ∧ Hid (St7 N c2 e2) ∧ Hid (MB wr o N 2 c2 e2) ∧ Hid (RB wr s N 2 c2 e2) ∧ Hid (Below w.heap.size w wr)) (fun i _ => m + m2 - (intOf i).toNat)
  case atStart => exact ⟨0, 0, 0, 0, 0, .inl (Nat.zero_le _), rfl, ⟨Int.le_refl _, hN3, hN2, .inl rfl⟩, m6, r6, ⟨Int.le_refl _, hN3, hN2, .inl rfl⟩, o6, s6, k6.out⟩
  case round =>
    clear m6 o6 r6 s6 k6
    obtain ⟨t, c, e, c2, e2, ht, rfl, hst, hM, hR, hst2, hO, hT, kr⟩ := hrel
    by_cases hta : t < m
    · by_cases htb : t < m2
      · obtain ⟨-, hLL⟩ := hS.below kr.out
        have hLl := hS.1
        rcases hLL with h0 | ⟨bp, op, rfl, hLL⟩
        · omega
        obtain ⟨a, l, cc, e0, e1, e2, hNL, hl⟩ := hLL t (by omega)
        clear hLL
        generalize L[t] = xx at *
        go_wp2_with fail
        refine (one_n hM.out hR.out hst.out hNL hl hB hne2).mono ?_
        rintro x w7 ⟨rfl, M7, R7, g7⟩
        have O7 := hO.out.but2 g7 (Ne.symm hne1) hne3
        have T7 := hT.out.but2 g7 (Ne.symm hne4) (Ne.symm hne6)
        have st7 := hst.out.step (k := 2) xx
        have K7 := hide (kr.out.trans (g7.below hbw hrw kr.out.size))
        clear e0 e1 e2 hNL hM hR hO hT hst kr g7
        generalize mstep N 2 c e xx = z at *
        obtain ⟨c', e', rv⟩ := z
        dsimp only at *
        obtain ⟨-, hLL⟩ := hS2.below K7.out
        have hLl2 := hS2.1
        rcases hLL with h0 | ⟨bq, oq, rfl, hLL⟩
        · omega
        obtain ⟨a2, l2, cc2, f0, f1, f2, hNL2, hl2⟩ := hLL t (by omega)
        clear hLL
        generalize L2[t] = yy at *
        go_wp2_with fail
        refine (one_n O7 T7 hst2.out hNL2 hl2 hB hne5).mono ?_
        rintro x w8 ⟨rfl, O8, T8, g8⟩
        have M8 := M7.but2 g8 hne1 hne4
        have R8 := R7.but2 g8 (Ne.symm hne3) hne6
        have st8 := hst2.out.step (k := 2) yy
        have K8 := hide (K7.out.trans (g8.below how hsw K7.out.size))
        clear f0 f1 f2 hNL2 M7 R7 O7 T7 hst2 K7 g8
        generalize mstep N 2 c2 e2 yy = z2 at *
        obtain ⟨c2', e2', rv2⟩ := z2
        dsimp only at *
        go_wp2
        go_round
        case rel => exact ⟨t + 1, c', e', c2', e2', by omega, by go_num, st7, M8, R8, st8, O8, T8, K8.out⟩
        case measure => simp [intOf]; omega
      · obtain ⟨-, hLL⟩ := hS.below kr.out
        have hLl := hS.1
        rcases hLL with h0 | ⟨bp, op, rfl, hLL⟩
        · omega
        obtain ⟨a, l, cc, e0, e1, e2, hNL, hl⟩ := hLL t (by omega)
        clear hLL
        generalize L[t] = xx at *
        go_wp2_with fail
        refine (one_n hM.out hR.out hst.out hNL hl hB hne2).mono ?_
        rintro x w7 ⟨rfl, M7, R7, g7⟩
        have O7 := hO.out.but2 g7 (Ne.symm hne1) hne3
        have T7 := hT.out.but2 g7 (Ne.symm hne4) (Ne.symm hne6)
        have st7 := hst.out.step (k := 2) xx
        have K7 := hide (kr.out.trans (g7.below hbw hrw kr.out.size))
        clear e0 e1 e2 hNL hM hR hO hT hst kr g7
        generalize mstep N 2 c e xx = z at *
        obtain ⟨c', e', rv⟩ := z
        dsimp only at *
        go_wp2
        go_round
        case rel => exact ⟨t + 1, c', e', c2, e2, by omega, by go_num, st7, M7, R7, hst2.out, O7, T7, K7.out⟩
        case measure => simp [intOf]; omega
    · by_cases htb : t < m2
      · have O7 := hO.out
        have T7 := hT.out
        have M7 := hM.out
        have R7 := hR.out
        have K7 := kr
        clear hO hT hM hR kr
        obtain ⟨-, hLL⟩ := hS2.below K7.out
        have hLl2 := hS2.1
        rcases hLL with h0 | ⟨bq, oq, rfl, hLL⟩
        · omega
        obtain ⟨a2, l2, cc2, f0, f1, f2, hNL2, hl2⟩ := hLL t (by omega)
        clear hLL
        generalize L2[t] = yy at *
        go_wp2_with fail
        refine (one_n O7 T7 hst2.out hNL2 hl2 hB hne5).mono ?_
        rintro x w8 ⟨rfl, O8, T8, g8⟩
        have M8 := M7.but2 g8 hne1 hne4
        have R8 := R7.but2 g8 (Ne.symm hne3) hne6
        have st8 := hst2.out.step (k := 2) yy
        have K8 := hide (K7.out.trans (g8.below how hsw K7.out.size))
        clear f0 f1 f2 hNL2 M7 R7 O7 T7 hst2 K7 g8
        generalize mstep N 2 c2 e2 yy = z2 at *
        obtain ⟨c2', e2', rv2⟩ := z2
        dsimp only at *
        go_wp2
        go_round
        case rel => exact ⟨t + 1, c, e, c2', e2', by omega, by go_num, hst.out, M8, R8, st8, O8, T8, K8.out⟩
        case measure => simp [intOf]; omega
      · go_wp2_with fail
        refine (node_nil wr _ _ _).mono ?_
        rintro x w7 ⟨rfl, k7⟩
        have M7 := hM.out.below k7
        have R7 := hR.out.below k7
        have O7 := hO.out.below k7
        have T7 := hT.out.below k7
        have K7 := hide (kr.out.trans (k7.mono kr.out.size))
        clear hM hR hO hT kr k7
        go_wp2_with fail
        refine (spend_nil w7 _).mono ?_
        rintro x w8 ⟨rfl, k8⟩
        have M8 := M7.below k8
        have R8 := R7.below k8
        have O8 := O7.below k8
        have T8 := T7.below k8
        have K8 := hide (K7.out.trans (k8.mono K7.out.size))
        clear M7 R7 O7 T7 K7 k8
        go_wp2_with fail
        refine (spent_nil w8).mono ?_
        rintro x w9 ⟨rfl, k9⟩
        have M9 := M8.below k9
        have R9 := R8.below k9
        have O9 := O8.below k9
        have T9 := T8.below k9
        have K9 := hide (K8.out.trans (k9.mono K8.out.size))
        clear M8 R8 O8 T8 K8 k9
        go_wp2_with fail
        refine (over_nil w9).mono ?_
        rintro x wA ⟨rfl, kA⟩
        have MA := M9.below kA
        have RA := R9.below kA
        have OA := O9.below kA
        have TA := T9.below kA
        have KA := hide (K9.out.trans (kA.mono K9.out.size))
        clear M9 R9 O9 T9 K9 kA
        go_wp2_with fail
        go_region_held3 (fun w' => w'.cell? ⟨r, 2, none⟩ = some (.int .i64 c) ∧ w'.cell? ⟨r, 3, none⟩ = some (.int .i64 e) ∧ w'.cell? ⟨s, 2, none⟩ = some (.int .i64 c2) ∧ w'.cell? ⟨s, 3, none⟩ = some (.int .i64 e2) ∧ Below wA.heap.size wA w')
          ((refine sk7f RA TA ?_; (repeat' (first | with_reducible exact Below.refl _ _ | with_reducible assumption | with_reducible refine step7 (by with_reducible assumption) ?_ | with_reducible refine g7_drew ?_ | with_reducible refine g7_alloc ?_ _ | with_reducible refine g7_drewN ?_ _))))
          (first | (go_at_call 9; with_reducible refine (spent_a (MB.below MA (by (repeat' (first | with_reducible exact Below.refl _ _ | with_reducible assumption | with_reducible refine step7 (by with_reducible assumption) ?_ | with_reducible refine g7_drew ?_ | with_reducible refine g7_alloc ?_ _ | with_reducible refine g7_drewN ?_ _)))) hst.out).mono ?_; rintro x wB ⟨rfl, hgB⟩) | (go_at_call 9; with_reducible refine (spent_a (MB.below OA (by (repeat' (first | with_reducible exact Below.refl _ _ | with_reducible assumption | with_reducible refine step7 (by with_reducible assumption) ?_ | with_reducible refine g7_drew ?_ | with_reducible refine g7_alloc ?_ _ | with_reducible refine g7_drewN ?_ _)))) hst2.out).mono ?_; rintro x wC ⟨rfl, hgC⟩) | (go_at_call 10; with_reducible refine (over_a (MB.below MA (by (repeat' (first | with_reducible exact Below.refl _ _ | with_reducible assumption | with_reducible refine step7 (by with_reducible assumption) ?_ | with_reducible refine g7_drew ?_ | with_reducible refine g7_alloc ?_ _ | with_reducible refine g7_drewN ?_ _)))) hst.out).mono ?_; rintro x wD ⟨rfl, hgD⟩) | (go_at_call 10; with_reducible refine (over_a (MB.below OA (by (repeat' (first | with_reducible exact Below.refl _ _ | with_reducible assumption | with_reducible refine step7 (by with_reducible assumption) ?_ | with_reducible refine g7_drew ?_ | with_reducible refine g7_alloc ?_ _ | with_reducible refine g7_drewN ?_ _)))) hst2.out).mono ?_; rintro x wE ⟨rfl, hgE⟩))
        rename_i hH
        have kf := hide (KA.out.trans (hH.2.2.2.2.mono KA.out.size))
        clear hH hgB hgC hgD hgE
        go_wp2
        go_ret
        exact ⟨rfl, kf.out⟩
end Go.Proofs.Ytofjjpkbildagaa
