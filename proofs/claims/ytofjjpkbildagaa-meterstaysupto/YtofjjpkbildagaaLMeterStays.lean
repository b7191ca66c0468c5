/-
  The law MeterStays: its walk.
-/
import Derived.Test.YtofjjpkbildagaaME
namespace Go.Proofs.Ytofjjpkbildagaa
open Go.RowKit Mt

/-- what a step's answer says of the state behind it -/
theorem step_says {n c e : Int} {x : Stp} {N' : Int} (h : St7 n c e) (hN : 0 ≤ N') (z : Int × Int × Int) (hz : z = if x.1 then mspend n c e N' else mnode n 2 c e x.2.2) :
    c ≤ z.1 ∧ z.1 ≤ n ∧ (e ≠ 0 → z.2.2 = e ∧ z.1 = c ∧ z.2.1 = e) ∧ (e = 0 → x.1 = false → (x.2.2.any (isl 2) = decide (z.2.2 = 71))) ∧ z.2.2 = z.2.1 := by
  obtain ⟨h1, h2, h3, h4⟩ := h
  subst hz
  by_cases h5 : e = 0
  · subst h5
    cases hx : x.1 with
    | true =>
      rw [if_pos rfl]
      unfold mspend
      rw [if_neg (by simp), if_neg (by omega)]
      split
      · exact ⟨Int.le_refl _, h2, fun h => absurd rfl h, fun _ h => (by cases h), rfl⟩
      · exact ⟨by dsimp only; omega, by dsimp only; omega, fun h => absurd rfl h, fun _ h => (by cases h), rfl⟩
    | false =>
      rw [if_neg (by decide)]
      unfold mnode
      rw [if_neg (by simp)]
      cases hq : x.2.2.any (isl 2) with
      | true =>
        rw [if_pos rfl]
        exact ⟨Int.le_refl _, h2, fun h => absurd rfl h, fun _ _ => rfl, rfl⟩
      | false =>
        rw [if_neg (by decide)]
        split
        · exact ⟨Int.le_refl _, h2, fun h => absurd rfl h, fun _ _ => rfl, rfl⟩
        · exact ⟨by dsimp only; omega, by dsimp only; omega, fun h => absurd rfl h, fun _ _ => rfl, rfl⟩
  · have e1 : (if x.1 = true then mspend n c e N' else mnode n 2 c e x.2.2) = (c, e, e) := by
      unfold mspend mnode
      rw [if_pos h5, if_pos h5]
      split <;> rfl
    rw [e1]
    exact ⟨Int.le_refl _, h2, fun _ => ⟨rfl, rfl, rfl⟩, fun h => absurd h h5, rfl⟩

set_option maxRecDepth 100000 in
set_option maxHeartbeats 6400000 in
theorem meterStays_walk {w : World} {nodes : Int} {ad : Option Addr} {m cp : Nat} {L : List Stp} {B : Nat} (n0 : -9223372036854775808 ≤ nodes) (n1 : nodes ≤ 9223372036854775807) (hS : SL w ad m L B) (hm : m ≤ 1048576) (hI : ∀ x ∈ L, -9223372036854775808 ≤ x.2.1 ∧ x.2.1 ≤ 9223372036854775807) (hB : B ≤ 1048576) :
    Calls Try.prog 5 #[.int .i64 nodes, .slice ad m cp] w fun x w' => x = .returned (.bool true) ∧ Below w.heap.size w w' := by
  go_enter Try.func5, Try.ntmps5
  go_wp2_with fail
  refine (pick7_n n0 n1 (by decide) (by decide)).mono ?_
  rintro x w1 ⟨n, rfl, hn0, hn1, k1⟩
  replace k1 := hide k1
  clear n0 n1
  go_wp2_with fail
  refine (new_n (by omega) (by omega) (by decide) (by decide)).mono ?_
  rintro x w2 ⟨rfl, m2', k2⟩
  have hbw := k1.out.size
  replace k2 := hide (step7 k2 k1.out)
  clear k1
  generalize w1.heap.size = b at *
  go_wp2_with fail
  refine (known7_n w2).mono ?_
  rintro x w4 ⟨rfl, k4⟩
  have m4 := m2'.below k4
  replace k4 := hide (step7 k4 k2.out)
  clear m2' k2
  generalize hN : 1 + n = N at *
  have hN2 : N ≤ 2000 := by omega
  have hN3 : 0 ≤ N := by omega
  clear hN hn0 hn1
  go_wp2_with fail
  replace hI := hide hI
  go_loopw [8, 9] (fun ov i wr => ∃ (t : Nat) (c e : Int), t ≤ m ∧ ov = .int .i64 e ∧ i = .int .i64 t ∧ Hid (St7 N c e) ∧ Hid (MB wr b N 2 c e) ∧ Hid (Below w.heap.size w wr)) (fun _ i _ => m - (intOf i).toNat)
  case atStart => exact ⟨0, 0, 0, Nat.zero_le _, rfl, rfl, ⟨Int.le_refl _, hN3, hN2, .inl rfl⟩, m4, k4.out⟩
  case round =>
    clear m4 k4
    obtain ⟨t, c, e, ht, rfl, rfl, hst, hM, kr⟩ := hrel
    by_cases htm : t < m
    · have hLl := hS.1
      obtain ⟨-, hLL⟩ := hS.below kr.out
      rcases hLL with h0 | ⟨bp, op, rfl, hLL⟩
      · omega
      · obtain ⟨a, l, cc, e0, e1, e2, hNL, hl⟩ := hLL t (by omega)
        clear hLL
        have hIx := hide (hI.out L[t] (List.getElem_mem _))
        generalize L[t] = xx at *
        have hx := XB.new wr xx.1 xx.2.1 a l cc
        have kx := below_alloc7 wr (.cells #[.bool xx.1, .int .i64 xx.2.1, .slice a l cc] 36)
        have HX := hide (And.intro hx (And.intro (step7 kx kr.out) (And.intro (hM.out.below kx) (hNL.below kx))))
        have hpb : wr.heap.size ≠ b := Nat.ne_of_gt hM.out.lt
        clear hx kx hNL hM
        go_wp2_with fail
        obtain ⟨hx, kx, hM, hNL⟩ := HX.out
        clear HX e0 e1 e2 kr
        refine (spent_a hM hst.out).mono ?_
        rintro x w5 ⟨rfl, k5⟩
        have x5 := hx.below k5
        have M5 := hM.below k5
        have q5 := hNL.below k5
        have K5 := hide (kx.trans (k5.mono kx.size))
        clear hx kx hM hNL k5
        generalize wr.heap.size = p at *
        go_wp2_with fail
        go_loopw [12, 13] (fun g k wi => ∃ (j : Nat), j ≤ l ∧ k = .int .i64 j ∧ g = .bool ((xx.2.2.take j).any (isl 2)) ∧ Hid (Below w5.heap.size w5 wi)) (fun _ k _ => l - (intOf k).toNat)
        case atStart => exact ⟨0, Nat.zero_le _, rfl, by simp, Below.refl _ _⟩
        case round =>
          obtain ⟨j, hj, rfl, rfl, ki⟩ := hrel
          have y2 := (x5.below ki.out).c2
          by_cases hjl : j < l
          · cases hg : (xx.2.2.take j).any (isl 2) with
            | true =>
              have hg2 : Hid ((xx.2.2.take (j + 1)).any (isl 2) = true) := (show _ = _ by rw [List.take_succ_eq_append_getElem (l := xx.2.2) (i := j) (by have := q5.1; omega), List.any_append, hg]; rfl)
              clear hg
              go_wp2
              go_round
              case rel => exact ⟨j + 1, by omega, by go_num, by rw [hg2.out], ki.out⟩
              case measure => simp [intOf]; omega
            | false =>
              have hg2 : Hid ((xx.2.2.take (j + 1)).any (isl 2) = isl 2 (xx.2.2[j]'(by have := q5.1; omega))) := (show _ = _ by rw [List.take_succ_eq_append_getElem (l := xx.2.2) (i := j) (by have := q5.1; omega), List.any_append, hg]; simp)
              clear hg
              obtain ⟨-, hLL⟩ := q5.below ki.out
              rcases hLL with h0 | ⟨bq, oq, rfl, hLL⟩
              · omega
              obtain ⟨a3, l3, c3, f0, f1, hr3, hl3⟩ := hLL j (by have := q5.1; omega)
              clear hLL
              generalize (xx.2.2[j]'(by have := q5.1; omega)) = yy at *
              obtain ⟨ys, yx⟩ := yy
              dsimp only at *
              go_wp2_with fail
              refine (rlimbs_n hr3 (by omega)).mono ?_
              rintro x w6 ⟨rfl, k6⟩
              obtain rfl : yx.length = l3 := hr3.1
              have htl := tl_le yx yx.length
              have hil : Hid (isl 2 (ys, yx) = decide (2 < (tl yx yx.length : Int))) := (show _ = _ from rfl)
              generalize tl yx yx.length = q at *
              have K6 := hide (step7 k6 ki.out)
              clear f0 f1 hr3 k6 y2
              go_wp2
              go_round
              case rel => exact ⟨j + 1, by omega, by go_num, by rw [hg2.out, hil.out], K6.out⟩
              case measure => simp [intOf]; omega
          · obtain rfl : j = l := by omega
            rw [List.take_of_length_le (by have := q5.1; omega)]
            have x6 := x5.below ki.out
            have M6 := M5.below ki.out
            have q6 := q5.below ki.out
            have K6 := hide (K5.out.trans (ki.out.mono K5.out.size))
            clear y2 x5 M5 q5 K5 ki
            have y0 := x6.c0
            have y1 := x6.c1
            have y2 := x6.c2
            generalize hgr : xx.2.2.any (isl 2) = gr at *
            replace hgr := hide hgr
            cases hx1 : xx.1 with
            | true =>
              rw [hx1] at y0
              go_wp2_with fail
              refine (pick7_n hIx.out.1 hIx.out.2 (by decide) (by decide)).mono ?_
              rintro x w7 ⟨pn, rfl, hp0, hp1, k7⟩
              have M7 := M6.below k7
              have X7 := x6.below k7
              have K7 := hide (K6.out.trans (k7.mono K6.out.size))
              clear y0 y1 y2 x6 M6 q6 K6 k7
              go_wp2_with fail
              refine (spend_a M7 hst.out).mono ?_
              rintro x w8 ⟨rfl, m8, g8⟩
              have X8 := X7.but g8 hpb
              have K8 := hide (K7.out.trans (g8.below hbw K7.out.size))
              have st8 := hst.out.spend pn
              have hsay := hide (step_says (x := xx) hst.out hp0 (mspend N c e pn) (by rw [hx1]; rfl))
              clear M7 X7 K7 g8
              generalize mspend N c e pn = z at *
              obtain ⟨c', e', rv⟩ := z
              dsimp only at *
              go_wp2_with fail
              refine (spent_a m8 st8).mono ?_
              rintro x w9 ⟨rfl, k9⟩
              have M9 := m8.below k9
              have X9 := X8.below k9
              have K9 := hide (K8.out.trans (k9.mono K8.out.size))
              clear m8 X8 K8 k9
              obtain ⟨s1, s2, s3, s4, s5⟩ := hsay.out
              clear hsay
              have z0 := X9.c0
              rw [hx1] at z0
              obtain rfl := s5
              by_cases he0 : e = 0
              · subst he0
                skip
                clear s3 s4
                rcases st8.2.2.2 with hrv | hrv | hrv
                · subst hrv
                  go_wp2_with fail
                  refine (over_a M9 st8).mono ?_
                  rintro x wA ⟨rfl, kA⟩
                  have MA := M9.below kA
                  have KA := hide (K9.out.trans (kA.mono K9.out.size))
                  clear M9 X9 K9 kA z0
                  go_wp2_with fail
                  refine (over_a MA st8).mono ?_
                  rintro x wB ⟨rfl, kB⟩
                  have MB := MA.below kB
                  have KB := hide (KA.out.trans (kB.mono KA.out.size))
                  clear MA KA kB
                  go_wp2
                  go_round
                  case rel => exact ⟨t + 1, c', _, by omega, rfl, by go_num, st8, MB, KB.out⟩
                  case measure => simp [intOf]; omega
                · subst hrv
                  go_wp2_with fail
                  refine (over_a M9 st8).mono ?_
                  rintro x wA ⟨rfl, kA⟩
                  have MA := M9.below kA
                  have KA := hide (K9.out.trans (kA.mono K9.out.size))
                  clear M9 X9 K9 kA z0
                  go_wp2_with fail
                  refine (over_a MA st8).mono ?_
                  rintro x wB ⟨rfl, kB⟩
                  have MB := MA.below kB
                  have KB := hide (KA.out.trans (kB.mono KA.out.size))
                  clear MA KA kB
                  go_wp2
                  go_round
                  case rel => exact ⟨t + 1, c', _, by omega, rfl, by go_num, st8, MB, KB.out⟩
                  case measure => simp [intOf]; omega
                · subst hrv
                  go_wp2_with fail
                  refine (over_a M9 st8).mono ?_
                  rintro x wA ⟨rfl, kA⟩
                  have MA := M9.below kA
                  have KA := hide (K9.out.trans (kA.mono K9.out.size))
                  clear M9 X9 K9 kA z0
                  go_wp2_with fail
                  refine (over_a MA st8).mono ?_
                  rintro x wB ⟨rfl, kB⟩
                  have MB := MA.below kB
                  have KB := hide (KA.out.trans (kB.mono KA.out.size))
                  clear MA KA kB
                  go_wp2
                  go_round
                  case rel => exact ⟨t + 1, c', _, by omega, rfl, by go_num, st8, MB, KB.out⟩
                  case measure => simp [intOf]; omega
              · obtain ⟨q1, q2, q3⟩ := s3 he0
                clear s3 s4
                obtain rfl := q1
                obtain rfl := q2
                clear q3
                rcases st8.2.2.2 with hrv | hrv | hrv
                · exact absurd hrv he0
                · subst hrv
                  clear he0
                  go_wp2_with fail
                  refine (over_a M9 st8).mono ?_
                  rintro x wA ⟨rfl, kA⟩
                  have MA := M9.below kA
                  have XA := X9.below kA
                  have KA := hide (K9.out.trans (kA.mono K9.out.size))
                  clear M9 X9 K9 kA z0
                  have z0 := XA.c0
                  rw [hx1] at z0
                  go_wp2_with fail
                  refine (over_a MA st8).mono ?_
                  rintro x wB ⟨rfl, kB⟩
                  have MB := MA.below kB
                  have KB := hide (KA.out.trans (kB.mono KA.out.size))
                  clear MA XA KA kB z0
                  go_wp2_with fail
                  refine (over_a MB st8).mono ?_
                  rintro x wC ⟨rfl, kC⟩
                  have MC := MB.below kC
                  have KC := hide (KB.out.trans (kC.mono KB.out.size))
                  clear MB KB kC
                  go_wp2
                  go_round
                  case rel => exact ⟨t + 1, _, _, by omega, rfl, by go_num, st8, MC, KC.out⟩
                  case measure => simp [intOf]; omega
                · subst hrv
                  clear he0
                  go_wp2_with fail
                  refine (over_a M9 st8).mono ?_
                  rintro x wA ⟨rfl, kA⟩
                  have MA := M9.below kA
                  have XA := X9.below kA
                  have KA := hide (K9.out.trans (kA.mono K9.out.size))
                  clear M9 X9 K9 kA z0
                  have z0 := XA.c0
                  rw [hx1] at z0
                  go_wp2_with fail
                  refine (over_a MA st8).mono ?_
                  rintro x wB ⟨rfl, kB⟩
                  have MB := MA.below kB
                  have KB := hide (KA.out.trans (kB.mono KA.out.size))
                  clear MA XA KA kB z0
                  go_wp2_with fail
                  refine (over_a MB st8).mono ?_
                  rintro x wC ⟨rfl, kC⟩
                  have MC := MB.below kC
                  have KC := hide (KB.out.trans (kC.mono KB.out.size))
                  clear MB KB kC
                  go_wp2
                  go_round
                  case rel => exact ⟨t + 1, _, _, by omega, rfl, by go_num, st8, MC, KC.out⟩
                  case measure => simp [intOf]; omega
            | false =>
              rw [hx1] at y0
              go_wp2_with fail
              refine (lent_n q6 hB (by omega)).mono ?_
              rintro x w7 ⟨ad', cp', rfl, hN7, k7⟩
              have M7 := M6.below k7
              have X7 := x6.below k7
              have K7 := hide (K6.out.trans (k7.mono K6.out.size))
              clear y0 y1 y2 x6 M6 q6 K6 k7
              go_wp2_with fail
              refine (node_a M7 hN7 hB (by omega) hst.out).mono ?_
              rintro x w8 ⟨rfl, m8, g8⟩
              have X8 := X7.but g8 hpb
              have K8 := hide (K7.out.trans (g8.below hbw K7.out.size))
              have st8 := hst.out.node (k := 2) xx.2.2
              have hsay := hide (step_says (x := xx) hst.out (Int.le_refl 0) (mnode N 2 c e xx.2.2) (by rw [hx1]; rfl))
              clear M7 X7 K7 g8
              generalize mnode N 2 c e xx.2.2 = z at *
              obtain ⟨c', e', rv⟩ := z
              dsimp only at *
              go_wp2_with fail
              refine (spent_a m8 st8).mono ?_
              rintro x w9 ⟨rfl, k9⟩
              have M9 := m8.below k9
              have X9 := X8.below k9
              have K9 := hide (K8.out.trans (k9.mono K8.out.size))
              clear m8 X8 K8 k9
              obtain ⟨s1, s2, s3, s4, s5⟩ := hsay.out
              clear hsay
              have z0 := X9.c0
              rw [hx1] at z0
              obtain rfl := s5
              by_cases he0 : e = 0
              · subst he0
                have hg : gr = decide (rv = 71) := hgr.out.symm.trans (s4 rfl hx1)
                clear s3 s4
                rcases st8.2.2.2 with hrv | hrv | hrv
                · subst hrv
                  simp at hg
                  subst hg
                  go_wp2_with fail
                  refine (over_a M9 st8).mono ?_
                  rintro x wA ⟨rfl, kA⟩
                  have MA := M9.below kA
                  have KA := hide (K9.out.trans (kA.mono K9.out.size))
                  clear M9 X9 K9 kA z0
                  go_wp2_with fail
                  refine (over_a MA st8).mono ?_
                  rintro x wB ⟨rfl, kB⟩
                  have MB := MA.below kB
                  have KB := hide (KA.out.trans (kB.mono KA.out.size))
                  clear MA KA kB
                  go_wp2
                  go_round
                  case rel => exact ⟨t + 1, c', _, by omega, rfl, by go_num, st8, MB, KB.out⟩
                  case measure => simp [intOf]; omega
                · subst hrv
                  simp at hg
                  subst hg
                  go_wp2_with fail
                  refine (over_a M9 st8).mono ?_
                  rintro x wA ⟨rfl, kA⟩
                  have MA := M9.below kA
                  have KA := hide (K9.out.trans (kA.mono K9.out.size))
                  clear M9 X9 K9 kA z0
                  go_wp2_with fail
                  refine (over_a MA st8).mono ?_
                  rintro x wB ⟨rfl, kB⟩
                  have MB := MA.below kB
                  have KB := hide (KA.out.trans (kB.mono KA.out.size))
                  clear MA KA kB
                  go_wp2
                  go_round
                  case rel => exact ⟨t + 1, c', _, by omega, rfl, by go_num, st8, MB, KB.out⟩
                  case measure => simp [intOf]; omega
                · subst hrv
                  simp at hg
                  subst hg
                  go_wp2_with fail
                  refine (over_a M9 st8).mono ?_
                  rintro x wA ⟨rfl, kA⟩
                  have MA := M9.below kA
                  have KA := hide (K9.out.trans (kA.mono K9.out.size))
                  clear M9 X9 K9 kA z0
                  go_wp2_with fail
                  refine (over_a MA st8).mono ?_
                  rintro x wB ⟨rfl, kB⟩
                  have MB := MA.below kB
                  have KB := hide (KA.out.trans (kB.mono KA.out.size))
                  clear MA KA kB
                  go_wp2
                  go_round
                  case rel => exact ⟨t + 1, c', _, by omega, rfl, by go_num, st8, MB, KB.out⟩
                  case measure => simp [intOf]; omega
              · obtain ⟨q1, q2, q3⟩ := s3 he0
                clear s3 s4
                obtain rfl := q1
                obtain rfl := q2
                clear q3
                rcases st8.2.2.2 with hrv | hrv | hrv
                · exact absurd hrv he0
                · subst hrv
                  clear he0
                  go_wp2_with fail
                  refine (over_a M9 st8).mono ?_
                  rintro x wA ⟨rfl, kA⟩
                  have MA := M9.below kA
                  have XA := X9.below kA
                  have KA := hide (K9.out.trans (kA.mono K9.out.size))
                  clear M9 X9 K9 kA z0
                  have z0 := XA.c0
                  rw [hx1] at z0
                  go_wp2_with fail
                  refine (over_a MA st8).mono ?_
                  rintro x wB ⟨rfl, kB⟩
                  have MB := MA.below kB
                  have KB := hide (KA.out.trans (kB.mono KA.out.size))
                  clear MA XA KA kB z0
                  go_wp2_with fail
                  refine (over_a MB st8).mono ?_
                  rintro x wC ⟨rfl, kC⟩
                  have MC := MB.below kC
                  have KC := hide (KB.out.trans (kC.mono KB.out.size))
                  clear MB KB kC
                  go_wp2
                  go_round
                  case rel => exact ⟨t + 1, _, _, by omega, rfl, by go_num, st8, MC, KC.out⟩
                  case measure => simp [intOf]; omega
                · subst hrv
                  clear he0
                  go_wp2_with fail
                  refine (over_a M9 st8).mono ?_
                  rintro x wA ⟨rfl, kA⟩
                  have MA := M9.below kA
                  have XA := X9.below kA
                  have KA := hide (K9.out.trans (kA.mono K9.out.size))
                  clear M9 X9 K9 kA z0
                  have z0 := XA.c0
                  rw [hx1] at z0
                  go_wp2_with fail
                  refine (over_a MA st8).mono ?_
                  rintro x wB ⟨rfl, kB⟩
                  have MB := MA.below kB
                  have KB := hide (KA.out.trans (kB.mono KA.out.size))
                  clear MA XA KA kB z0
                  go_wp2_with fail
                  refine (over_a MB st8).mono ?_
                  rintro x wC ⟨rfl, kC⟩
                  have MC := MB.below kC
                  have KC := hide (KB.out.trans (kC.mono KB.out.size))
                  clear MB KB kC
                  go_wp2
                  go_round
                  case rel => exact ⟨t + 1, _, _, by omega, rfl, by go_num, st8, MC, KC.out⟩
                  case measure => simp [intOf]; omega
    · obtain rfl : t = m := by omega
      go_wp2
      go_ret
      exact ⟨rfl, kr.out⟩
end Go.Proofs.Ytofjjpkbildagaa
