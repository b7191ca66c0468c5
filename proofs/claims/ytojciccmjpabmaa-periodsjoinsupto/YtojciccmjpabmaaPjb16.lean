/-
 The law PeriodsJoins: its walk.
-/
import Derived.Test.YtojciccmjpabmaaPjb14
import Derived.Lib.BufferMore
namespace Go.Proofs.Ytojciccmjpabmaa
open Go.RowKit
namespace Pd

theorem twop_sl {w : World} {b c : Nat} {A B : PD} (hA : PS w b A) (hB : PS w c B) : SLs (w.alloc (.cells #[.pointer (some ⟨b, 0, none⟩), .pointer (some ⟨c, 0, none⟩)] 27)) (some ⟨w.heap.size, 0, none⟩) 2 [A, B] := by
 have k := below_alloc w (.cells #[.pointer (some ⟨b, 0, none⟩), .pointer (some ⟨c, 0, none⟩)] 27)
 have y := heap_alloc_new w (.cells #[.pointer (some ⟨b, 0, none⟩), .pointer (some ⟨c, 0, none⟩)] 27)
 refine ⟨rfl, .inr ⟨w.heap.size, [b, c], rfl, by simp, Pp.app (pp_one (hA.below k)) (pp_one (hB.below k)), fun i hi => ?_⟩⟩
 have := cell_of_row _ w.heap.size i _ _ (0, 0) y
 match i, hi with
 | 0, _ => exact this
 | 1, _ => exact this
set_option maxRecDepth 100000 in
set_option maxHeartbeats 6400000 in
theorem periodsJoins_walk {w : World} {la pa : Option Addr} {ln lc np cp : Nat} {R : List MkD} {qp : List ZV} {xp : List Int} (hR : MLs w la ln R) (hn : ln ≤ 1048576) (hp : XP w pa np cp qp xp) (hnp : np ≤ 1048576) :
  Calls Try.prog 3 #[.slice la ln lc, .slice pa np cp] w fun e w' => e = .returned (.bool true) ∧ Below w.heap.size w w' := by
 have hset := hide (sets_n (lc := lc) hR hn)
 replace hp := hide hp
 clear hR
 go_enter Try.func3, Try.ntmps3
 go_wp2_with fail
 refine hset.out.mono ?_
 rintro e w1 ⟨sa, sn, sc, Ds, rfl, hsa, hsl, hs1, hs2, hcs, -, k1⟩
 obtain ⟨ba, -, rfl, -⟩ := hsl.get (i := 0) hs1 (by have := hsl.1; omega)
 have hkn := hide (known_n w1)
 have hnil : ∀ W : World, (binOp .eql 24 (.slice (some ⟨ba, 0, none⟩) sn sc) (.slice none 0 0)).run Try.prog W = .ok (.bool false) W := fun W => Go.Lib.run_eql_slice_some_nil W _ _ _ Try.underlying24
 clear hsa
 replace hsl := hide hsl
 replace hcs := hide hcs
 clear hset
 go_wp2_with fail
 refine hkn.out.mono ?_
 rintro e w2 ⟨rfl, k2⟩
 have hs := hide (hsl.out.below k2)
 have kw := hide (grow_step k2 k1)
 clear hkn hsl k2 k1
 go_wp2_with fail
 go_loopw [6] (fun vi wr => ∃ i : Nat, i ≤ sn ∧ vi = .int .i64 i ∧ Below w2.heap.size w2 wr) (fun vi _ => sn - (intOf vi).toNat)
 case atStart => exact ⟨0, Nat.zero_le _, rfl, Below.refl _ _⟩
 case round =>
  obtain ⟨i, hi, rfl, kr⟩ := hrel
  by_cases hin : i < sn
  ·have hl := hs.out.1
   obtain ⟨b1, sS, e1, hb1, d0, hS⟩ := (hs.out.below kr).get hin (by omega)
   cases e1
   obtain ⟨b2, sO, e2, hb2, d1, hO⟩ := (hs.out.below kr).get (i := sn / 2) (by omega) (by omega)
   cases e2
   have hcS := hcs.out _ (List.getElem_mem (show i < Ds.length by omega))
   have hcO := hcs.out _ (List.getElem_mem (show sn / 2 < Ds.length by omega))
   generalize Ds[i]'(by omega) = S at *
   generalize Ds[sn / 2]'(by omega) = O at *
   have hre := hide (rest_n hS (by omega))
   replace hS := hide hS
   replace hO := hide hO
   replace hl := hide hl
   replace kr := hide kr
   go_wp2_with fail
   refine hre.out.mono ?_
   rintro e w3 ⟨sR, RR, rfl, hRR, k3, r1, r2, r3⟩
   have hme := hide (meet_n (hS.out.below k3) (hO.out.below k3) (by omega) (by omega))
   replace hRR := hide hRR
   have hrl : RR.cs.length ≤ 4096 := by rw [r2]; exact hcS
   obtain ⟨er, her⟩ : ∃ er, jErr (Nat.lcm S.p O.p) = er := ⟨_, rfl⟩
   have hev : er = 0 ∨ er = 180 := by
    rw [← her]
    unfold jErr
    split
    ·exact .inr rfl
    ·exact .inl rfl
   rw [her] at hme
   clear hre d0 d1 r1 r2
   go_wp2_with fail
   refine hme.out.mono ?_
   rintro e w4 ⟨k4, ⟨he, rfl⟩ | ⟨he, bM, M, rfl, hM, -, m2, m3, -⟩⟩
   ·obtain rfl : er = 180 := hev.resolve_left he
    have hjo := hide (join_n (hS.out.below (grow_step k4 k3)) (hO.out.below (grow_step k4 k3)) (by omega) (by omega))
    rw [her] at hjo
    replace her := hide her
    go_wp2_with fail
    refine hjo.out.mono ?_
    rintro e w5 ⟨k5, ⟨-, rfl⟩ | ⟨h0, -⟩⟩
    rotate_left
    ·exact absurd h0 (by decide)
    have kw5 := hide (grow_step k5 (grow_step k4 (grow_step k3 kr.out)))
    have hS5 := hide (hS.out.below (grow_step k5 (grow_step k4 k3)))
    have hO5 := hide (hO.out.below (grow_step k5 (grow_step k4 k3)))
    have hR5 := hide (hRR.out.below (grow_step k5 k4))
    have ba6 := below_alloc w5 (.cells #[.pointer (some ⟨sS, 0, none⟩), .pointer (some ⟨sO, 0, none⟩)] 27)
    have kw6 := grow_step ba6 kw5.out
    have hso := hide (some_n (sc := 2) (hp.out.below (grow_step kw6 kw.out)) hnp (twop_sl hS5.out hO5.out) (by decide) (fun D h => by
     rcases List.mem_cons.1 h with rfl | h
     ·omega
     ·rw [List.mem_singleton.1 h]; omega))
    replace kw6 := hide kw6
    replace ba6 := hide ba6
    clear hme hjo k3 k4 k5 hRR hS hO kw5
    go_wp2_with fail
    refine hso.out.mono ?_
    rintro e w7 ⟨aa, an, ac, xs, rfl, hns, han, k7⟩
    have kw7 := hide (grow_step k7 kw6.out)
    have kb7 := hide (grow_step k7 ba6.out)
    replace hns := hide hns
    have hS7 := hide (hS5.out.below kb7.out)
    have hO7 := hide (hO5.out.below kb7.out)
    have hR7 := hide (hR5.out.below kb7.out)
    clear hso k7 kw6 kb7 ba6 hS5 hO5 hR5
    go_wp2_with fail
    go_loopw [15] (fun vi wr => ∃ k : Nat, k ≤ an ∧ vi = .int .i64 k ∧ Below w7.heap.size w7 wr) (fun vi _ => an - (intOf vi).toNat)
    case atStart => exact ⟨0, Nat.zero_le _, rfl, Below.refl _ _⟩
    case round =>
     obtain ⟨k, hk, rfl, kq⟩ := hrel
     by_cases hkn : k < an
     ·obtain ⟨ab, z, x, rfl, hab, c0, c1, hz, hzl⟩ := (hns.out.below kq).get hkn
      have h1 := hide (sHas_n (y := z) (hS7.out.below kq) (by omega) hz (by omega))
      have c0x := fun (u : World) (ku : Below wr.heap.size wr u) => (Below.cell (p := ⟨ab, k * 2, none⟩) ku hab).trans c0
      have c1x := fun (u : World) (ku : Below wr.heap.size wr u) => (Below.cell (p := ⟨ab, k * 2 + 1, none⟩) ku hab).trans c1
      replace c0x := hide c0x
      replace c1x := hide c1x
      replace hz := hide hz
      replace kq := hide kq
      go_wp2_with fail
      refine h1.out.mono ?_
      rintro e u1 ⟨rfl, q1⟩
      have d0 := c0x.out u1 q1
      have d1 := c1x.out u1 q1
      have h2 := hide (sHas_n (y := z) ((hO7.out.below kq.out).below q1) (by omega) (hz.out.below q1) (by omega))
      replace q1 := hide q1
      clear h1 c0 c1
      go_wp2_with fail
      refine h2.out.mono ?_
      rintro e u2 ⟨rfl, q2⟩
      have g2 := grow_step q2 q1.out
      have f0 := c0x.out u2 g2
      have f1 := c1x.out u2 g2
      have h3 := hide (sHas_n (y := z) ((hR7.out.below kq.out).below g2) (by omega) (hz.out.below g2) (by omega))
      rw [r3 x] at h3
      replace g2 := hide g2
      clear h2 d0 d1 q1 q2
      go_wp2_with fail
      refine h3.out.mono ?_
      rintro e u3 ⟨rfl, q3⟩
      have g3 := grow_step q3 g2.out
      replace g3 := hide g3
      clear h3 f0 f1 g2 q3
      cases hx : mem S x
      ·have kz := hide (grow_step g3.out kq.out)
       clear c0x c1x kq
       clear g3
       go_wp2
       go_roundw
       case measure => simp [intOf]; omega
       case rel => exact ⟨k + 1, by omega, by go_num, kz.out⟩
      ·have kz := hide (grow_step g3.out kq.out)
       clear c0x c1x kq
       clear g3
       go_wp2
       go_roundw
       case measure => simp [intOf]; omega
       case rel => exact ⟨k + 1, by omega, by go_num, kz.out⟩
     ·obtain rfl : k = an := by omega
      have kz := hide (grow_step kq kw7.out)
      clear kq
      go_wp2_with fail
      exact ⟨⟨i + 1, by omega, by go_num, kz.out⟩, by simp [intOf]; omega⟩
   ·subst he
    have hjo := hide (join_n (hS.out.below (grow_step k4 k3)) (hO.out.below (grow_step k4 k3)) (by omega) (by omega))
    rw [her] at hjo
    replace her := hide her
    go_wp2_with fail
    refine hjo.out.mono ?_
    rintro e w5 ⟨k5, ⟨h0, -⟩ | ⟨-, bJ, J, rfl, hJ, -, j2, j3, -⟩⟩
    ·exact absurd rfl h0
    have kw5 := hide (grow_step k5 (grow_step k4 (grow_step k3 kr.out)))
    have hS5 := hide (hS.out.below (grow_step k5 (grow_step k4 k3)))
    have hO5 := hide (hO.out.below (grow_step k5 (grow_step k4 k3)))
    have hR5 := hide (hRR.out.below (grow_step k5 k4))
    have hM5 := hide (hM.below k5)
    have hJ5 := hide hJ
    have ba6 := below_alloc w5 (.cells #[.pointer (some ⟨sS, 0, none⟩), .pointer (some ⟨sO, 0, none⟩)] 27)
    have kw6 := grow_step ba6 kw5.out
    have hso := hide (some_n (sc := 2) (hp.out.below (grow_step kw6 kw.out)) hnp (twop_sl hS5.out hO5.out) (by decide) (fun D h => by
     rcases List.mem_cons.1 h with rfl | h
     ·omega
     ·rw [List.mem_singleton.1 h]; omega))
    replace kw6 := hide kw6
    replace ba6 := hide ba6
    clear hme hjo k3 k4 k5 hRR hS hO kw5 hM hJ
    go_wp2_with fail
    refine hso.out.mono ?_
    rintro e w7 ⟨aa, an, ac, xs, rfl, hns, han, k7⟩
    have kw7 := hide (grow_step k7 kw6.out)
    have kb7 := hide (grow_step k7 ba6.out)
    replace hns := hide hns
    have hS7 := hide (hS5.out.below kb7.out)
    have hO7 := hide (hO5.out.below kb7.out)
    have hR7 := hide (hR5.out.below kb7.out)
    have hM7 := hide (hM5.out.below kb7.out)
    have hJ7 := hide (hJ5.out.below kb7.out)
    clear hso k7 kw6 kb7 ba6 hS5 hO5 hR5 hM5 hJ5
    go_wp2_with fail
    go_loopw [15] (fun vi wr => ∃ k : Nat, k ≤ an ∧ vi = .int .i64 k ∧ Below w7.heap.size w7 wr) (fun vi _ => an - (intOf vi).toNat)
    case atStart => exact ⟨0, Nat.zero_le _, rfl, Below.refl _ _⟩
    case round =>
     obtain ⟨k, hk, rfl, kq⟩ := hrel
     by_cases hkn : k < an
     ·obtain ⟨ab, z, x, rfl, hab, c0, c1, hz, hzl⟩ := (hns.out.below kq).get hkn
      have h1 := hide (sHas_n (y := z) (hS7.out.below kq) (by omega) hz (by omega))
      have c0x := fun (u : World) (ku : Below wr.heap.size wr u) => (Below.cell (p := ⟨ab, k * 2, none⟩) ku hab).trans c0
      have c1x := fun (u : World) (ku : Below wr.heap.size wr u) => (Below.cell (p := ⟨ab, k * 2 + 1, none⟩) ku hab).trans c1
      replace c0x := hide c0x
      replace c1x := hide c1x
      replace hz := hide hz
      replace kq := hide kq
      go_wp2_with fail
      refine h1.out.mono ?_
      rintro e u1 ⟨rfl, q1⟩
      have d0 := c0x.out u1 q1
      have d1 := c1x.out u1 q1
      have h2 := hide (sHas_n (y := z) ((hO7.out.below kq.out).below q1) (by omega) (hz.out.below q1) (by omega))
      replace q1 := hide q1
      clear h1 c0 c1
      go_wp2_with fail
      refine h2.out.mono ?_
      rintro e u2 ⟨rfl, q2⟩
      have g2 := grow_step q2 q1.out
      have f0 := c0x.out u2 g2
      have f1 := c1x.out u2 g2
      have h3 := hide (sHas_n (y := z) ((hR7.out.below kq.out).below g2) (by omega) (hz.out.below g2) (by omega))
      rw [r3 x] at h3
      replace g2 := hide g2
      clear h2 d0 d1 q1 q2
      go_wp2_with fail
      refine h3.out.mono ?_
      rintro e u3 ⟨rfl, q3⟩
      have g3 := grow_step q3 g2.out
      have m0 := c0x.out u3 g3
      have m1 := c1x.out u3 g3
      have h4 := hide (sHas_n (y := z) ((hM7.out.below kq.out).below g3) (by omega) (hz.out.below g3) (by omega))
      rw [m3 x] at h4
      replace g3 := hide g3
      clear h3 f0 f1 g2 q3
      cases hx : mem S x
      ·cases hy : mem O x
       ·rw [hx, hy] at h4
        go_wp2_with fail
        refine h4.out.mono ?_
        rintro e u4 ⟨rfl, q4⟩
        have g4 := grow_step q4 g3.out
        have n0 := c0x.out u4 g4
        have n1 := c1x.out u4 g4
        have h5 := hide (sHas_n (y := z) ((hJ7.out.below kq.out).below g4) (by omega) (hz.out.below g4) (by omega))
        rw [j3 x, hx, hy] at h5
        replace g4 := hide g4
        clear h4 m0 m1 g3 q4
        go_wp2_with fail
        refine h5.out.mono ?_
        rintro e u5 ⟨rfl, q5⟩
        have kz := hide (grow_step (grow_step q5 g4.out) kq.out)
        clear c0x c1x kq
        clear h5 n0 n1 q5 g4
        go_wp2
        go_roundw
        case measure => simp [intOf]; omega
        case rel => exact ⟨k + 1, by omega, by go_num, kz.out⟩
       ·rw [hx, hy] at h4
        go_wp2_with fail
        refine h4.out.mono ?_
        rintro e u4 ⟨rfl, q4⟩
        have g4 := grow_step q4 g3.out
        have n0 := c0x.out u4 g4
        have n1 := c1x.out u4 g4
        have h5 := hide (sHas_n (y := z) ((hJ7.out.below kq.out).below g4) (by omega) (hz.out.below g4) (by omega))
        rw [j3 x, hx, hy] at h5
        replace g4 := hide g4
        clear h4 m0 m1 g3 q4
        go_wp2_with fail
        refine h5.out.mono ?_
        rintro e u5 ⟨rfl, q5⟩
        have kz := hide (grow_step (grow_step q5 g4.out) kq.out)
        clear c0x c1x kq
        clear h5 n0 n1 q5 g4
        go_wp2
        go_roundw
        case measure => simp [intOf]; omega
        case rel => exact ⟨k + 1, by omega, by go_num, kz.out⟩
      ·cases hy : mem O x
       ·rw [hx, hy] at h4
        go_wp2_with fail
        refine h4.out.mono ?_
        rintro e u4 ⟨rfl, q4⟩
        have g4 := grow_step q4 g3.out
        have n0 := c0x.out u4 g4
        have n1 := c1x.out u4 g4
        have h5 := hide (sHas_n (y := z) ((hJ7.out.below kq.out).below g4) (by omega) (hz.out.below g4) (by omega))
        rw [j3 x, hx, hy] at h5
        replace g4 := hide g4
        clear h4 m0 m1 g3 q4
        go_wp2_with fail
        refine h5.out.mono ?_
        rintro e u5 ⟨rfl, q5⟩
        have kz := hide (grow_step (grow_step q5 g4.out) kq.out)
        clear c0x c1x kq
        clear h5 n0 n1 q5 g4
        go_wp2
        go_roundw
        case measure => simp [intOf]; omega
        case rel => exact ⟨k + 1, by omega, by go_num, kz.out⟩
       ·rw [hx, hy] at h4
        go_wp2_with fail
        refine h4.out.mono ?_
        rintro e u4 ⟨rfl, q4⟩
        have g4 := grow_step q4 g3.out
        have n0 := c0x.out u4 g4
        have n1 := c1x.out u4 g4
        have h5 := hide (sHas_n (y := z) ((hJ7.out.below kq.out).below g4) (by omega) (hz.out.below g4) (by omega))
        rw [j3 x, hx, hy] at h5
        replace g4 := hide g4
        clear h4 m0 m1 g3 q4
        go_wp2_with fail
        refine h5.out.mono ?_
        rintro e u5 ⟨rfl, q5⟩
        have kz := hide (grow_step (grow_step q5 g4.out) kq.out)
        clear c0x c1x kq
        clear h5 n0 n1 q5 g4
        go_wp2
        go_roundw
        case measure => simp [intOf]; omega
        case rel => exact ⟨k + 1, by omega, by go_num, kz.out⟩
     ·obtain rfl : k = an := by omega
      have kz := hide (grow_step kq kw7.out)
      clear kq
      go_wp2_with fail
      exact ⟨⟨i + 1, by omega, by go_num, kz.out⟩, by simp [intOf]; omega⟩
  ·obtain rfl : i = sn := by omega
   have kf := hide (grow_step kr kw.out)
   clear kr
   go_wp2
   exact bodyPost_ret (results_tmp rfl _ _ _) rfl ⟨rfl, kf.out⟩
end Pd
end Go.Proofs.Ytojciccmjpabmaa
