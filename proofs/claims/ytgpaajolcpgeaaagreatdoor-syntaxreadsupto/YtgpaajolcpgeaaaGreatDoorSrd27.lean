/-
 Several texts in one: OQ, IT, IU, IQ, IR, IV, IW, IX, IZ, IZ2, IY, IZ3, IZ4.
-/
import Derived.Test.YtgpaajolcpgeaaaGreatDoorSrd26
import Derived.Deep.DeepCutAuto
import Derived.Test.YtgpaajolcpgeaaaGreatDoorSrd25
import Derived.Test.YtgpaajolcpgeaaaGreatDoorSrd07
import Derived.Test.YtgpaajolcpgeaaaGreatDoorSrd14
namespace Go.Proofs.YtgpaajolcpgeaaaGreatDoor
open Go.RowKit
namespace Sx

theorem mk_map2 (w : World) : (Instr.makeMap 83 none).run Tryz.prog w = .ok (.map (some w.heap.size)) (w.alloc (.map #[] 0)) := by
  simp [Instr.makeMap]
def SmR (w : World) (p : P2) (en : Ending) (w' : World) : Prop := Below w.heap.size w w' ∧ ∃ r : Bool, (r = true ↔ Sm p) ∧ en = .returned (.bool r)
set_option maxRecDepth 100000 in
set_option maxHeartbeats 6400000 in
theorem same_n {w : World} {x y : TC} {t u : Tr} {f : Nat} (hx : Rt An w x t) (hy : Rt An w y u) (hf : ¬ Dp f t) (hN : cntF f t ≤ 1073741824) (hB : Al Bd4 t) (hC : Al Bd4 u) :
    Calls Tryz.prog 22 #[x.val, y.val] w fun en w' => SmR w (t, u) en w' := by
  replace hx : Rt (fun b => b < w.heap.size) w x t := (rt_in hx).imp fun b hb => hb.2
  replace hy : Rt (fun b => b < w.heap.size) w y u := (rt_in hy).imp fun b hb => hb.2
  go_enter Tryz.func22, Tryz.ntmps22
  have b1 := below_alloc w (.cells #[.int .i64 x.k, .string x.nm, .slice x.na x.nn x.nc, .bool x.s, .slice x.a x.l x.c, .slice x.ka x.kn x.kc] 28)
  have b2 := below_alloc (w.alloc (.cells #[.int .i64 x.k, .string x.nm, .slice x.na x.nn x.nc, .bool x.s, .slice x.a x.l x.c, .slice x.ka x.kn x.kc] 28)) (.cells #[.int .i64 y.k, .string y.nm, .slice y.na y.nn y.nc, .bool y.s, .slice y.a y.l y.c, .slice y.ka y.kn y.kc] 28)
  have y1 := (vb_new w x).below b2
  have y2 := vb_new (w.alloc (.cells #[.int .i64 x.k, .string x.nm, .slice x.na x.nn x.nc, .bool x.s, .slice x.a x.l x.c, .slice x.ka x.kn x.kc] 28)) y
  have ez : (w.alloc (.cells #[.int .i64 x.k, .string x.nm, .slice x.na x.nn x.nc, .bool x.s, .slice x.a x.l x.c, .slice x.ka x.kn x.kc] 28)).heap.size = w.heap.size + 1 := by simp
  rw [ez] at y2
  have ez2 : ((w.alloc (.cells #[.int .i64 x.k, .string x.nm, .slice x.na x.nn x.nc, .bool x.s, .slice x.a x.l x.c, .slice x.ka x.kn x.kc] 28)).alloc (.cells #[.int .i64 y.k, .string y.nm, .slice y.na y.nn y.nc, .bool y.s, .slice y.a y.l y.c, .slice y.ka y.kn y.kc] 28)).heap.size = w.heap.size + 2 := by simp
  clear ez
  have hx2 := rt_below (rt_below hx b1) b2
  have hy2 := rt_below (rt_below hy b1) b2
  have hb := hide (grow_step b2 b1)
  clear hx hy b1 b2
  iterate 8 (first | go_skip | go_guarded | go_step | go_upon | go_simp)
  generalize (w.alloc (.cells #[.int .i64 x.k, .string x.nm, .slice x.na x.nn x.nc, .bool x.s, .slice x.a x.l x.c, .slice x.ka x.kn x.kc] 28)).alloc (.cells #[.int .i64 y.k, .string y.nm, .slice y.na y.nn y.nc, .bool y.s, .slice y.a y.l y.c, .slice y.ka y.kn y.kc] 28) = W at *
  generalize hz : w.heap.size = bt at *
  replace hz := hide hz
  have b3 := below_alloc W (.map #[] 0)
  have m3 := heap_alloc_new W (.map #[] 0)
  have z1 := y1.below b3
  have z2 := y2.below b3
  have hx3 := rt_below hx2 b3
  have hy3 := rt_below hy2 b3
  have hbW : bt ≤ W.heap.size := by omega
  have hb3 := hide (hb.out.trans (b3.mono hbW))
  have ez3 : (W.alloc (.map #[] 0)).heap.size = bt + 3 := by simp [ez2]
  rw [ez2] at m3
  have hmk := mk_map2 W
  rw [ez2] at hmk
  clear y1 y2 hx2 hy2 b3 hb
  iterate 12 (first | go_skip | go_guarded | go_step | go_upon | go_simp)
  generalize W.alloc (.map #[] 0) = W3 at *
  clear ez2 hbW hmk
  have b4 := below_alloc W3 (.cells #[.int .i64 x.k, .string x.nm, .slice x.na x.nn x.nc, .bool x.s, .slice x.a x.l x.c, .slice x.ka x.kn x.kc] 28)
  have n4 := heap_alloc_new W3 (.cells #[.int .i64 x.k, .string x.nm, .slice x.na x.nn x.nc, .bool x.s, .slice x.a x.l x.c, .slice x.ka x.kn x.kc] 28)
  have ez4 : (W3.alloc (.cells #[.int .i64 x.k, .string x.nm, .slice x.na x.nn x.nc, .bool x.s, .slice x.a x.l x.c, .slice x.ka x.kn x.kc] 28)).heap.size = bt + 4 := by simp [ez3]
  have u2 := z2.below b4
  have m4 := (b4.block (bt + 2) (by omega)).trans m3
  have hx4 := rt_below hx3 b4
  have hy4 := rt_below hy3 b4
  have hb4 := hide (hb3.out.trans (b4.mono (by omega)))
  rw [ez3] at n4
  have a0 := z1.c0
  have a1 := z1.c1
  have a2 := z1.c2
  have a3 := z1.c3
  have a4 := z1.c4
  have a5 := z1.c5
  clear z1 z2 m3 hx3 hy3 hb3 b4
  iterate 14 (first | go_skip | go_guarded | go_step | go_upon | go_simp)
  generalize W3.alloc (.cells #[.int .i64 x.k, .string x.nm, .slice x.na x.nn x.nc, .bool x.s, .slice x.a x.l x.c, .slice x.ka x.kn x.kc] 28) = W4 at *
  clear a0 a1 a2 a3 a4 a5 ez3
  have b5 := below_alloc W4 (.cells #[.int .i64 y.k, .string y.nm, .slice y.na y.nn y.nc, .bool y.s, .slice y.a y.l y.c, .slice y.ka y.kn y.kc] 28)
  have n5 := heap_alloc_new W4 (.cells #[.int .i64 y.k, .string y.nm, .slice y.na y.nn y.nc, .bool y.s, .slice y.a y.l y.c, .slice y.ka y.kn y.kc] 28)
  have ez5 : (W4.alloc (.cells #[.int .i64 y.k, .string y.nm, .slice y.na y.nn y.nc, .bool y.s, .slice y.a y.l y.c, .slice y.ka y.kn y.kc] 28)).heap.size = bt + 5 := by simp [ez4]
  have m5 := (b5.block (bt + 2) (by omega)).trans m4
  have l5 := (b5.block (bt + 3) (by omega)).trans n4
  have hx5 := rt_below hx4 b5
  have hy5 := rt_below hy4 b5
  have hb5 := hide (hb4.out.trans (b5.mono (by omega)))
  rw [ez4] at n5
  have a0 := u2.c0
  have a1 := u2.c1
  have a2 := u2.c2
  have a3 := u2.c3
  have a4 := u2.c4
  have a5 := u2.c5
  clear u2 m4 hx4 hy4 hb4 n4 b5
  iterate 10 (first | go_skip | go_guarded | go_step | go_upon | go_simp)
  generalize W4.alloc (.cells #[.int .i64 y.k, .string y.nm, .slice y.na y.nn y.nc, .bool y.s, .slice y.a y.l y.c, .slice y.ka y.kn y.kc] 28) = W5 at *
  clear a0 a1 a2 a3 a4 a5 ez4
  have b6 := below_alloc W5 (.cells #[.slice (some ⟨bt + 3, 0, none⟩) 1 1, .slice (some ⟨bt + 4, 0, none⟩) 1 1] 85)
  have n6 := heap_alloc_new W5 (.cells #[.slice (some ⟨bt + 3, 0, none⟩) 1 1, .slice (some ⟨bt + 4, 0, none⟩) 1 1] 85)
  have m6 := (b6.block (bt + 2) (by omega)).trans m5
  have k6 := (b6.block (bt + 3) (by omega)).trans l5
  have l6 := (b6.block (bt + 4) (by omega)).trans n5
  have hx6 := rt_below hx5 b6
  have hy6 := rt_below hy5 b6
  have hb6 := hide (hb5.out.trans (b6.mono (by omega)))
  have ez6 : (W5.alloc (.cells #[.slice (some ⟨bt + 3, 0, none⟩) 1 1, .slice (some ⟨bt + 4, 0, none⟩) 1 1] 85)).heap.size = bt + 6 := by simp [ez5]
  rw [ez5] at n6
  clear m5 l5 n5 hx5 hy5 hb5 b6
  go_wp2_with fail
  have hs6 := hide (sm_first hx6 hy6 hf hB hC hb6.out k6 l6 m6 n6)
  generalize W5.alloc (.cells #[.slice (some ⟨bt + 3, 0, none⟩) 1 1, .slice (some ⟨bt + 4, 0, none⟩) 1 1] 85) = W6 at *
  clear n6 m6 k6 l6 hx6 hy6 hb6 ez5 ez6 hf hB hC
  generalize hNN : cntF f t = N at *
  go_loopg [6] (1 + 2 * N) (fun k v wr => ∃ (vis : List P2) (LL : List (List P2)) (E : List (Value × Value)) (q : List Sl2), k ≤ 1 + 2 * N ∧ LL.length + 2 * cnL f (LL.flatten.map Prod.fst) ≤ k ∧ Hid (SmS f N bt w (t, u) vis LL [] E q v wr))
  case atStart =>
    refine ⟨_, _, _, _, Nat.le_refl _, ?_, hs6⟩
    simp [cnL, hNN]
  case round =>
    clear hs6 hNN
    obtain ⟨vis, LL, E, q, hgk, hm, hs⟩ := hrel
    obtain ⟨-, a, c, rfl, hrow⟩ := own_pairs hs.out.m.own
    have hql : q.length = LL.length := hs.out.m.pr.1
    match hn : q.length with
    | 0 =>
      rw [hn] at hql
      obtain rfl : LL = [] := List.length_eq_zero_iff.1 hql.symm
      have hfin : Hid (SmR w (t, u) (.returned (.bool true)) wr) := hide ⟨hz.out.symm ▸ hs.out.bl, true, ⟨fun _ => hs.out.d.all, fun _ => rfl⟩, rfl⟩
      clear hs hql hrow hm
      go_wp2
      refine bodyPost_ret (results_tmp rfl _ _ _) rfl ?_
      exact hfin.out
    | n + 1 =>
      obtain ⟨q', s, rfl, hq'⟩ := snoc_of hn
      obtain ⟨LL', L, rfl, hL'⟩ := snoc_of (hql.symm.trans hn)
      obtain ⟨g, rfl, hg, hub, hob, hcap, hc⟩ := hrow.resolve_left (by omega)
      obtain ⟨⟨ka, kn, kc⟩, ⟨kb, kn2, kc2⟩⟩ := s
      have ct : ∀ j, j < 2 → wr.cell? ⟨g, n * 2 + j, none⟩ = (Sl2.enc ⟨⟨ka, kn, kc⟩, ⟨kb, kn2, kc2⟩⟩)[j]? := fun j hj => by
        have := hc n (by rw [List.length_append, hq']; simp) j hj
        rw [Nat.zero_add] at this
        rw [this]
        congr 1
        rw [List.getElem_append_right (by omega)]
        simp [hq']
      have ct0 : wr.cell? ⟨g, n * 2, none⟩ = some (.slice ka kn kc) := ct 0 (by decide)
      have ct1 : wr.cell? ⟨g, n * 2 + 1, none⟩ = some (.slice kb kn2 kc2) := ct 1 (by decide)
      rw [hn] at hcap
      have hso := hs.out
      rw [hn] at hso
      obtain ⟨hs1, hkp⟩ := hso.pop hq'
      have hLn : L.length = kn := by have := hkp.1.1; rw [List.length_map] at this; exact this
      have hLn2 : L.length = kn2 := by have := hkp.2.1; rw [List.length_map] at this; exact this
      obtain rfl : kn = kn2 := hLn.symm.trans hLn2
      rw [List.length_append, List.length_singleton, List.flatten_append, List.map_append, cnL_append] at hm
      simp only [List.flatten_cons, List.flatten_nil, List.append_nil] at hm
      have hob1 : Hid ((Value.slice (some ⟨g, 0, none⟩) n c).ownBlock = some g) := hide hob
      have hgw : g < wr.heap.size := hub.lt
      have hnN : n ≤ 1 + 2 * N := by omega
      have hLN : kn ≤ cnL f (L.map Prod.fst) := by
        have := len_le_cnL (n := f) (l := L.map Prod.fst) fun z hz => by
          obtain ⟨r, hr, rfl⟩ := List.mem_map.1 hz
          exact hs1.d.dep r (.inr hr)
        rw [List.length_map, hLn] at this
        exact this
      have h1 : IntKind.i64.wrap (((n + 1 : Nat) : Int) - 1) = (n : Int) := by
        rw [IntKind.wrap_i64]
        omega
      have hgt0 : decide ((0 : Int) < ((n + 1 : Nat) : Int)) = true := by
        rw [decide_eq_true_eq]
        omega
      have hi1 : (n : Int) < ((n + 1 : Nat) : Int) := by omega
      have hi2 : (n : Int) ≤ (c : Int) := by omega
      have b1 := below_alloc wr (.cells #[.slice ka kn kc, .slice kb kn kc2] 85)
      have n1 := heap_alloc_new wr (.cells #[.slice ka kn kc, .slice kb kn kc2] 85)
      have hs2 := hide (hs1.below b1)
      have hkp2 := hide (hkp.kf (Kf.of_below b1))
      have d0 := cell_of_row _ wr.heap.size 0 _ _ (0, 0) n1
      replace hLn := hide hLn
      clear hLn2
      replace n1 := hide n1
      clear hs hrow hc hn hq' hql hL' ct hub hob hso hs1 hkp b1 hg
      go_wp2_with fail
      clear ct0 ct1 h1 hgt0 hi1 hi2 d0
      obtain ⟨w1, hw1⟩ : ∃ w1, wr.alloc (.cells #[.slice ka kn kc, .slice kb kn kc2] 85) = w1 := ⟨_, rfl⟩
      have hb8 : wr.heap.size < w1.heap.size := by rw [← hw1]; simp
      rw [hw1] at hs2 hkp2 n1 ⊢
      clear hw1
      generalize wr.heap.size = b8 at *
      go_loopw [6, 38] (fun v i wr => ∃ (j : Nat) (vis : List P2) (LL : List (List P2)) (E : List (Value × Value)) (q : List Sl2), j ≤ kn ∧ i = .int .i64 j ∧ LL.length + 2 * cnL f (LL.flatten.map Prod.fst) + 2 * cnL f ((L.drop j).map Prod.fst) + j ≤ LL'.length + 2 * (cnL f (LL'.flatten.map Prod.fst) + cnL f (L.map Prod.fst)) ∧ v.ownBlock ≠ some b8 ∧ Hid (SmS f N bt w (t, u) vis LL (L.drop j) E q v wr) ∧ Hid (KP (SmF bt) wr ⟨⟨ka, kn, kc⟩, ⟨kb, kn, kc2⟩⟩ L) ∧ Hid (wr.heap[b8]? = some (.cells #[.slice ka kn kc, .slice kb kn kc2] 85 (0, 0)))) (fun _ i _ => kn - (intOf i).toNat)
      case atStart =>
        refine ⟨0, _, _, _, _, Nat.zero_le _, rfl, ?_, ?_, hs2, hkp2, n1⟩
        · rw [List.drop_zero]; omega
        · rw [hob1.out]; intro e; have := Option.some.inj e; omega
      case round =>
        clear hs2 hkp2 n1 hob1
        obtain ⟨j, vis2, LL2, E2, q2, hj, rfl, hm2, hv8, hs, hkp, n1⟩ := hrel
        by_cases hjn : j < kn
        · have hjL : j < L.length := by rw [hLn.out]; exact hjn
          obtain ⟨r0, hr0⟩ : ∃ r0, L[j] = r0 := ⟨_, rfl⟩
          have hdr : L.drop j = r0 :: L.drop (j + 1) := by rw [List.drop_eq_getElem_cons hjL, hr0]
          rw [hdr] at hs hm2
          obtain ⟨ba, offa, rfl, hFa, hUa, hca⟩ := hkp.out.1.2.resolve_left (show ¬ kn = 0 by omega)
          obtain ⟨bb, offb, rfl, hFb, hUb, hcb⟩ := hkp.out.2.2.resolve_left (show ¬ kn = 0 by omega)
          obtain ⟨X, hcx, hX⟩ := hca j (by rw [List.length_map]; exact hjL)
          obtain ⟨Y, hcy, hY⟩ := hcb j (by rw [List.length_map]; exact hjL)
          rw [List.getElem_map, hr0] at hX hY
          have hlt : decide ((j : Int) < (kn : Int)) = true := by
            rw [decide_eq_true_eq]
            omega
          have hi2 : (j : Int) < (kn : Int) := by omega
          obtain ⟨S, hSd⟩ : ∃ S : World → Prop, S = fun W => (W.cell? ⟨b8, 0, none⟩ = some (.slice (some ⟨ba, offa, none⟩) kn kc) ∧ W.cell? ⟨b8, 1, none⟩ = some (.slice (some ⟨bb, offb, none⟩) kn kc2)) ∧ (W.cell? ⟨ba, offa + j * 6, none⟩ = some (.int .i64 X.k) ∧ W.cell? ⟨ba, offa + j * 6 + 1, none⟩ = some (.string X.nm) ∧ W.cell? ⟨ba, offa + j * 6 + 2, none⟩ = some (.slice X.na X.nn X.nc) ∧ W.cell? ⟨ba, offa + j * 6 + 3, none⟩ = some (.bool X.s) ∧ W.cell? ⟨ba, offa + j * 6 + 4, none⟩ = some (.slice X.a X.l X.c) ∧ W.cell? ⟨ba, offa + j * 6 + 5, none⟩ = some (.slice X.ka X.kn X.kc)) ∧ (W.cell? ⟨bb, offb + j * 6, none⟩ = some (.int .i64 Y.k) ∧ W.cell? ⟨bb, offb + j * 6 + 1, none⟩ = some (.string Y.nm) ∧ W.cell? ⟨bb, offb + j * 6 + 2, none⟩ = some (.slice Y.na Y.nn Y.nc) ∧ W.cell? ⟨bb, offb + j * 6 + 3, none⟩ = some (.bool Y.s) ∧ W.cell? ⟨bb, offb + j * 6 + 4, none⟩ = some (.slice Y.a Y.l Y.c) ∧ W.cell? ⟨bb, offb + j * 6 + 5, none⟩ = some (.slice Y.ka Y.kn Y.kc)) := ⟨_, rfl⟩
          have hS : ∀ W, Below wr.heap.size wr W → S W := fun W k => by
            rw [hSd]
            have e8 : ∀ i, W.cell? ⟨b8, i, none⟩ = wr.cell? ⟨b8, i, none⟩ := fun i => World.cell?_of_block (a := ⟨b8, i, none⟩) (k.block b8 (lt_of_block n1.out))
            have ea : ∀ i, W.cell? ⟨ba, i, none⟩ = wr.cell? ⟨ba, i, none⟩ := fun i => World.cell?_of_block (a := ⟨ba, i, none⟩) (k.block ba hUa.lt)
            have eb : ∀ i, W.cell? ⟨bb, i, none⟩ = wr.cell? ⟨bb, i, none⟩ := fun i => World.cell?_of_block (a := ⟨bb, i, none⟩) (k.block bb hUb.lt)
            refine ⟨⟨?_, ?_⟩, ⟨?_, ?_, ?_, ?_, ?_, ?_⟩, ?_, ?_, ?_, ?_, ?_, ?_⟩
            · rw [e8]; exact cell_of_row wr b8 0 _ _ (0, 0) n1.out
            · rw [e8]; exact cell_of_row wr b8 1 _ _ (0, 0) n1.out
            · rw [ea]; exact hcx 0 (by decide)
            · rw [ea]; exact hcx 1 (by decide)
            · rw [ea]; exact hcx 2 (by decide)
            · rw [ea]; exact hcx 3 (by decide)
            · rw [ea]; exact hcx 4 (by decide)
            · rw [ea]; exact hcx 5 (by decide)
            · rw [eb]; exact hcy 0 (by decide)
            · rw [eb]; exact hcy 1 (by decide)
            · rw [eb]; exact hcy 2 (by decide)
            · rw [eb]; exact hcy 3 (by decide)
            · rw [eb]; exact hcy 4 (by decide)
            · rw [eb]; exact hcy 5 (by decide)
          replace hX := hide hX
          replace hY := hide hY
          clear hcx hcy hca hcb hFa hFb hUa hUb hr0
          go_upto_region 10 with (fail)
          go_cut [10, 11] (fun t10 t11 wc => ∃ (bx bY : Nat), t10 = .pointer (some ⟨bx, 0, none⟩) ∧ t11 = .pointer (some ⟨bY, 0, none⟩) ∧ wr.heap.size ≤ bx ∧ wr.heap.size ≤ bY ∧ Hid (VB wc bx X) ∧ Hid (VB wc bY Y) ∧ Hid (Below wr.heap.size wr wc))
          case first =>
            have h0 := hS wr (Below.refl _ _)
            rw [hSd] at h0
            obtain ⟨⟨d0, d1⟩, ⟨e0, e1, e2, e3, e4, e5⟩, g0, g1, g2, g3, g4, g5⟩ := h0
            rw [hSd] at hS
            clear hSd
            refine wp_region_held_drew (S := fun W => (W.cell? ⟨b8, 0, none⟩ = some (.slice (some ⟨ba, offa, none⟩) kn kc) ∧ W.cell? ⟨b8, 1, none⟩ = some (.slice (some ⟨bb, offb, none⟩) kn kc2)) ∧ (W.cell? ⟨ba, offa + j * 6, none⟩ = some (.int .i64 X.k) ∧ W.cell? ⟨ba, offa + j * 6 + 1, none⟩ = some (.string X.nm) ∧ W.cell? ⟨ba, offa + j * 6 + 2, none⟩ = some (.slice X.na X.nn X.nc) ∧ W.cell? ⟨ba, offa + j * 6 + 3, none⟩ = some (.bool X.s) ∧ W.cell? ⟨ba, offa + j * 6 + 4, none⟩ = some (.slice X.a X.l X.c) ∧ W.cell? ⟨ba, offa + j * 6 + 5, none⟩ = some (.slice X.ka X.kn X.kc)) ∧ (W.cell? ⟨bb, offb + j * 6, none⟩ = some (.int .i64 Y.k) ∧ W.cell? ⟨bb, offb + j * 6 + 1, none⟩ = some (.string Y.nm) ∧ W.cell? ⟨bb, offb + j * 6 + 2, none⟩ = some (.slice Y.na Y.nn Y.nc) ∧ W.cell? ⟨bb, offb + j * 6 + 3, none⟩ = some (.bool Y.s) ∧ W.cell? ⟨bb, offb + j * 6 + 4, none⟩ = some (.slice Y.a Y.l Y.c) ∧ W.cell? ⟨bb, offb + j * 6 + 5, none⟩ = some (.slice Y.ka Y.kn Y.kc))) (by kernel_rfl) (hS _ (grow_drew (Below.refl _ _))) (fun hHeld => ?_)
            show wpAnyH _ _ _ _ _ 14 _ _ _
            have kW := grow_drew (Below.refl wr.heap.size wr)
            generalize wr.drew = wD at *
            refine wpAnyH_take (i := 0) (oi := ⟨some 41, _, _, _, _, _⟩) (v := ?_) rfl (by kernel_rfl) (by kernel_rfl) (by kernel_rfl) (fun _ _ _ h => by first | exact h | cases h.1) (Or.inl ⟨by rfl, ?_⟩) (by assumption) ?_
            rotate_left
            · intro wq hSw; (try dsimp only at hSw); go_simp; (try with_reducible rfl)
            (try simp only [Act.put, List.setIfInBounds_toArray, List.set_cons_zero, List.set_cons_succ])
            refine wpAnyH_take (i := 1) (oi := ⟨some 42, _, _, _, _, _⟩) (v := ?_) rfl (by kernel_rfl) (by kernel_rfl) (by kernel_rfl) (fun _ _ _ h => by first | exact h | cases h.1) (Or.inl ⟨by rfl, ?_⟩) (by assumption) ?_
            rotate_left
            · intro wq hSw; (try dsimp only at hSw); go_simp; (try with_reducible rfl)
            (try simp only [Act.put, List.setIfInBounds_toArray, List.set_cons_zero, List.set_cons_succ])
            refine wpAnyH_take (i := 2) (oi := ⟨some 43, _, _, _, _, _⟩) (v := ?_) rfl (by kernel_rfl) (by kernel_rfl) (by kernel_rfl) (fun _ _ _ h => by first | exact h | cases h.1) (Or.inl ⟨by rfl, ?_⟩) (by assumption) ?_
            rotate_left
            · intro wq hSw; (try dsimp only at hSw); go_simp; (try with_reducible rfl)
            (try simp only [Act.put, List.setIfInBounds_toArray, List.set_cons_zero, List.set_cons_succ])
            refine wpAnyH_take (i := 3) (oi := ⟨some 44, _, _, _, _, _⟩) (v := ?_) rfl (by kernel_rfl) (by kernel_rfl) (by kernel_rfl) (fun _ _ _ h => by first | exact h | cases h.1) (Or.inl ⟨by rfl, ?_⟩) (by assumption) ?_
            rotate_left
            · intro wq hSw; (try dsimp only at hSw); go_simp; (try with_reducible rfl)
            (try simp only [Act.put, List.setIfInBounds_toArray, List.set_cons_zero, List.set_cons_succ])
            refine wpAnyH_take (i := 4) (oi := ⟨some 45, _, _, _, _, _⟩) (v := ?_) rfl (by kernel_rfl) (by kernel_rfl) (by kernel_rfl) (fun _ _ _ h => by first | exact h | cases h.1) (Or.inl ⟨by rfl, ?_⟩) (by assumption) ?_
            rotate_left
            · intro wq hSw; (try dsimp only at hSw); go_simp; (try with_reducible rfl)
            (try simp only [Act.put, List.setIfInBounds_toArray, List.set_cons_zero, List.set_cons_succ])
            refine wpAnyH_take (i := 5) (oi := ⟨some 46, _, _, _, _, _⟩) (v := ?_) rfl (by kernel_rfl) (by kernel_rfl) (by kernel_rfl) (fun _ _ _ h => by first | exact h | cases h.1) (Or.inl ⟨by rfl, ?_⟩) (by assumption) ?_
            rotate_left
            · intro wq hSw; (try dsimp only at hSw); go_simp; (try with_reducible rfl)
            (try simp only [Act.put, List.setIfInBounds_toArray, List.set_cons_zero, List.set_cons_succ])
            refine wpAnyH_take (i := 6) (oi := ⟨some 47, _, _, _, _, _⟩) (v := ?_) rfl (by kernel_rfl) (by kernel_rfl) (by kernel_rfl) (fun _ _ _ h => by first | exact h | cases h.1) (Or.inl ⟨by rfl, ?_⟩) (by assumption) ?_
            rotate_left
            · intro wq hSw; (try dsimp only at hSw); go_simp; (try with_reducible rfl)
            (try simp only [Act.put, List.setIfInBounds_toArray, List.set_cons_zero, List.set_cons_succ])
            refine wpAnyH_take (i := 7) (oi := ⟨some 48, _, _, _, _, _⟩) (v := ?_) rfl (by kernel_rfl) (by kernel_rfl) (by kernel_rfl) (fun _ _ _ h => by first | exact h | cases h.1) (Or.inl ⟨by rfl, ?_⟩) (by assumption) ?_
            rotate_left
            · intro wq hSw; (try dsimp only at hSw); go_simp; (try with_reducible rfl)
            (try simp only [Act.put, List.setIfInBounds_toArray, List.set_cons_zero, List.set_cons_succ])
            refine wpAnyH_take (i := 8) (oi := ⟨some 49, _, _, _, _, _⟩) (v := ?_) rfl (by kernel_rfl) (by kernel_rfl) (by kernel_rfl) (fun _ _ _ h => by first | exact h | cases h.1) (Or.inl ⟨by rfl, ?_⟩) (by assumption) ?_
            rotate_left
            · intro wq hSw; (try dsimp only at hSw); go_simp; (try with_reducible rfl)
            (try simp only [Act.put, List.setIfInBounds_toArray, List.set_cons_zero, List.set_cons_succ])
            refine wpAnyH_take (i := 9) (oi := ⟨some 50, _, _, _, _, _⟩) (v := ?_) rfl (by kernel_rfl) (by kernel_rfl) (by kernel_rfl) (fun _ _ _ h => by first | exact h | cases h.1) (Or.inl ⟨by rfl, ?_⟩) (by assumption) ?_
            rotate_left
            · intro wq hSw; (try dsimp only at hSw); go_simp; (try with_reducible rfl)
            (try simp only [Act.put, List.setIfInBounds_toArray, List.set_cons_zero, List.set_cons_succ])
            refine wpAnyH_ready (rs := [10, 11]) (by kernel_rfl) (by simp) ?_
            refine AllReadyH.cons (o := ⟨some 10, _, _, _, _, _⟩) rfl (fun K hK => ?_) (AllReadyH.cons (o := ⟨some 11, _, _, _, _, _⟩) rfl (fun K hK => ?_) AllReadyH.nil)
            · have kA := below_alloc wD (.cells #[.int .i64 0, .string ⟨#[]⟩, .slice none 0 0, .bool false, .slice none 0 0, .slice none 0 0] 28)
              have zA := vb_zero wD
              have kW1 := grow_step kA kW
              have hlA : wD.heap.size < (wD.alloc (.cells #[.int .i64 0, .string ⟨#[]⟩, .slice none 0 0, .bool false, .slice none 0 0, .slice none 0 0] 28)).heap.size := by simp
              have hbA : wr.heap.size ≤ wD.heap.size := kW.size
              go_simp
              refine hK.out _ _ ?_ ?_
              · exact hS _ kW1
              clear hK K hHeld; intro hHeld
              (try simp only [Act.put, List.setIfInBounds_toArray, List.set_cons_zero, List.set_cons_succ])
              clear kW kA
              generalize wD.alloc (.cells #[.int .i64 0, .string ⟨#[]⟩, .slice none 0 0, .bool false, .slice none 0 0, .slice none 0 0] 28) = wA at *
              generalize wD.heap.size = bA at *
              refine wpAnyH_ready (rs := [11]) (by kernel_rfl) (by simp) ?_
              refine AllReadyH.cons (o := ⟨some 11, _, _, _, _, _⟩) rfl (fun K hK => ?_) AllReadyH.nil
              have kB := below_alloc wA (.cells #[.int .i64 0, .string ⟨#[]⟩, .slice none 0 0, .bool false, .slice none 0 0, .slice none 0 0] 28)
              have zB := vb_zero wA
              have zA := zA.below kB
              have kW2 := grow_step kB kW1
              have hbB : wr.heap.size ≤ wA.heap.size := by omega
              go_simp
              refine hK.out _ _ ?_ ?_
              · exact hS _ kW2
              clear hK K hHeld; intro hHeld
              (try simp only [Act.put, List.setIfInBounds_toArray, List.set_cons_zero, List.set_cons_succ])
              clear kW1 kB
              generalize wA.alloc (.cells #[.int .i64 0, .string ⟨#[]⟩, .slice none 0 0, .bool false, .slice none 0 0, .slice none 0 0] 28) = wB at *
              generalize wA.heap.size = bB at *
              refine wpAnyH_ready (rs := [12]) (by kernel_rfl) (by simp) ?_
              refine AllReadyH.cons (o := ⟨none, _, _, _, _, _⟩) rfl (fun K hK => ?_) AllReadyH.nil
              have q0 := zA.c0
              have q1 := zA.c1
              have q2' := zA.c2
              have q3 := zA.c3
              have q4 := zA.c4
              have q5 := zA.c5
              have f0 := zA.f 0
              have f1 := zA.f 1
              have f2 := zA.f 2
              have f3 := zA.f 3
              have f4 := zA.f 4
              have f5 := zA.f 5
              have ho := v_only wB bA X
              have hzn := vb_set zA X
              have hzo : VB (vSet wB bA X) bB _ := (ho.block _ (by omega)).trans zB
              have kW3 := below_only kW2 ho (by omega)
              go_simp
              refine hK.out _ _ ?_ ?_
              · exact hS _ kW3
              clear hK K hHeld; intro hHeld
              (try simp only [Act.put, List.setIfInBounds_toArray, List.set_cons_zero, List.set_cons_succ])
              clear q0 q1 q2' q3 q4 q5 f0 f1 f2 f3 f4 f5 ho zA zB kW2
              replace hzn := hide hzn
              replace hzo := hide hzo
              replace kW3 := hide kW3
              change Hid (VB (vSet wB bA X) bA X) at hzn
              change Hid (VB (vSet wB bA X) bB _) at hzo
              change Hid (Below _ _ (vSet wB bA X)) at kW3
              rw [v_fold] at hHeld ⊢
              generalize vSet wB bA X = wB at *
              have zN := hzn.out
              have zO := hzo.out
              have kW2 := kW3.out
              clear hzn hzo kW3
              refine wpAnyH_ready (rs := [13]) (by kernel_rfl) (by simp) ?_
              refine AllReadyH.cons (o := ⟨none, _, _, _, _, _⟩) rfl (fun K hK => ?_) AllReadyH.nil
              have q0 := zO.c0
              have q1 := zO.c1
              have q2' := zO.c2
              have q3 := zO.c3
              have q4 := zO.c4
              have q5 := zO.c5
              have f0 := zO.f 0
              have f1 := zO.f 1
              have f2 := zO.f 2
              have f3 := zO.f 3
              have f4 := zO.f 4
              have f5 := zO.f 5
              have ho := v_only wB bB Y
              have hzn := vb_set zO Y
              have hzo : VB (vSet wB bB Y) bA _ := (ho.block _ (by omega)).trans zN
              have kW3 := below_only kW2 ho (by omega)
              go_simp
              refine hK.out _ _ ?_ ?_
              · exact hS _ kW3
              clear hK K hHeld; intro hHeld
              (try simp only [Act.put, List.setIfInBounds_toArray, List.set_cons_zero, List.set_cons_succ])
              clear q0 q1 q2' q3 q4 q5 f0 f1 f2 f3 f4 f5 ho zO zN kW2
              replace hzn := hide hzn
              replace hzo := hide hzo
              replace kW3 := hide kW3
              change Hid (VB (vSet wB bB Y) bB Y) at hzn
              change Hid (VB (vSet wB bB Y) bA _) at hzo
              change Hid (Below _ _ (vSet wB bB Y)) at kW3
              refine wpAnyH_done (by kernel_rfl) ?_ _
              clear hHeld hS d0 d1 e0 e1 e2 e3 e4 e5 g0 g1 g2 g3 g4 g5
              go_wp2_with fail
              go_meet
              case rel => exact ⟨bA, bB, rfl, rfl, by omega, by omega, hzo, hzn, kW3⟩
            · have kA := below_alloc wD (.cells #[.int .i64 0, .string ⟨#[]⟩, .slice none 0 0, .bool false, .slice none 0 0, .slice none 0 0] 28)
              have zA := vb_zero wD
              have kW1 := grow_step kA kW
              have hlA : wD.heap.size < (wD.alloc (.cells #[.int .i64 0, .string ⟨#[]⟩, .slice none 0 0, .bool false, .slice none 0 0, .slice none 0 0] 28)).heap.size := by simp
              have hbA : wr.heap.size ≤ wD.heap.size := kW.size
              go_simp
              refine hK.out _ _ ?_ ?_
              · exact hS _ kW1
              clear hK K hHeld; intro hHeld
              (try simp only [Act.put, List.setIfInBounds_toArray, List.set_cons_zero, List.set_cons_succ])
              clear kW kA
              generalize wD.alloc (.cells #[.int .i64 0, .string ⟨#[]⟩, .slice none 0 0, .bool false, .slice none 0 0, .slice none 0 0] 28) = wA at *
              generalize wD.heap.size = bA at *
              refine wpAnyH_ready (rs := [10]) (by kernel_rfl) (by simp) ?_
              refine AllReadyH.cons (o := ⟨some 10, _, _, _, _, _⟩) rfl (fun K hK => ?_) AllReadyH.nil
              have kB := below_alloc wA (.cells #[.int .i64 0, .string ⟨#[]⟩, .slice none 0 0, .bool false, .slice none 0 0, .slice none 0 0] 28)
              have zB := vb_zero wA
              have zA := zA.below kB
              have kW2 := grow_step kB kW1
              have hbB : wr.heap.size ≤ wA.heap.size := by omega
              go_simp
              refine hK.out _ _ ?_ ?_
              · exact hS _ kW2
              clear hK K hHeld; intro hHeld
              (try simp only [Act.put, List.setIfInBounds_toArray, List.set_cons_zero, List.set_cons_succ])
              clear kW1 kB
              generalize wA.alloc (.cells #[.int .i64 0, .string ⟨#[]⟩, .slice none 0 0, .bool false, .slice none 0 0, .slice none 0 0] 28) = wB at *
              generalize wA.heap.size = bB at *
              refine wpAnyH_ready (rs := [12]) (by kernel_rfl) (by simp) ?_
              refine AllReadyH.cons (o := ⟨none, _, _, _, _, _⟩) rfl (fun K hK => ?_) AllReadyH.nil
              have q0 := zB.c0
              have q1 := zB.c1
              have q2' := zB.c2
              have q3 := zB.c3
              have q4 := zB.c4
              have q5 := zB.c5
              have f0 := zB.f 0
              have f1 := zB.f 1
              have f2 := zB.f 2
              have f3 := zB.f 3
              have f4 := zB.f 4
              have f5 := zB.f 5
              have ho := v_only wB bB X
              have hzn := vb_set zB X
              have hzo : VB (vSet wB bB X) bA _ := (ho.block _ (by omega)).trans zA
              have kW3 := below_only kW2 ho (by omega)
              go_simp
              refine hK.out _ _ ?_ ?_
              · exact hS _ kW3
              clear hK K hHeld; intro hHeld
              (try simp only [Act.put, List.setIfInBounds_toArray, List.set_cons_zero, List.set_cons_succ])
              clear q0 q1 q2' q3 q4 q5 f0 f1 f2 f3 f4 f5 ho zB zA kW2
              replace hzn := hide hzn
              replace hzo := hide hzo
              replace kW3 := hide kW3
              change Hid (VB (vSet wB bB X) bB X) at hzn
              change Hid (VB (vSet wB bB X) bA _) at hzo
              change Hid (Below _ _ (vSet wB bB X)) at kW3
              rw [v_fold] at hHeld ⊢
              generalize vSet wB bB X = wB at *
              have zN := hzn.out
              have zO := hzo.out
              have kW2 := kW3.out
              clear hzn hzo kW3
              refine wpAnyH_ready (rs := [13]) (by kernel_rfl) (by simp) ?_
              refine AllReadyH.cons (o := ⟨none, _, _, _, _, _⟩) rfl (fun K hK => ?_) AllReadyH.nil
              have q0 := zO.c0
              have q1 := zO.c1
              have q2' := zO.c2
              have q3 := zO.c3
              have q4 := zO.c4
              have q5 := zO.c5
              have f0 := zO.f 0
              have f1 := zO.f 1
              have f2 := zO.f 2
              have f3 := zO.f 3
              have f4 := zO.f 4
              have f5 := zO.f 5
              have ho := v_only wB bA Y
              have hzn := vb_set zO Y
              have hzo : VB (vSet wB bA Y) bB _ := (ho.block _ (by omega)).trans zN
              have kW3 := below_only kW2 ho (by omega)
              go_simp
              refine hK.out _ _ ?_ ?_
              · exact hS _ kW3
              clear hK K hHeld; intro hHeld
              (try simp only [Act.put, List.setIfInBounds_toArray, List.set_cons_zero, List.set_cons_succ])
              clear q0 q1 q2' q3 q4 q5 f0 f1 f2 f3 f4 f5 ho zO zN kW2
              replace hzn := hide hzn
              replace hzo := hide hzo
              replace kW3 := hide kW3
              change Hid (VB (vSet wB bA Y) bA Y) at hzn
              change Hid (VB (vSet wB bA Y) bB _) at hzo
              change Hid (Below _ _ (vSet wB bA Y)) at kW3
              refine wpAnyH_done (by kernel_rfl) ?_ _
              clear hHeld hS d0 d1 e0 e1 e2 e3 e4 e5 g0 g1 g2 g3 g4 g5
              go_wp2_with fail
              go_meet
              case rel => exact ⟨bB, bA, rfl, rfl, by omega, by omega, hzo, hzn, kW3⟩
          case rest =>
            obtain ⟨bx, bY, rfl, rfl, hbx, hbY, zx, zy, kW⟩ := hcut
            clear hS hSd S
            have hs1 := hide (hs.out.below kW.out)
            have hkp1 := hide (hkp.out.kf (Kf.of_below kW.out))
            have n2 : Hid (wc.heap[b8]? = some (.cells #[.slice (some ⟨ba, offa, none⟩) kn kc, .slice (some ⟨bb, offb, none⟩) kn kc2] 85 (0, 0))) := hide ((kW.out.block b8 (lt_of_block n1.out)).trans n1.out)
            have hX1 := hX.out.kf (Kf.of_below kW.out)
            have hY1 := hY.out.kf (Kf.of_below kW.out)
            obtain ⟨alx, aly⟩ := hs.out.al r0 (.inr List.mem_cons_self)
            have hal := hide (alike_n hX1 hY1 alx.self aly.self)
            have hsw : b8 < wr.heap.size := lt_of_block n1.out
            have hmw : bt + 2 < wr.heap.size := hs.out.m.met.lt
            replace hX1 := hide hX1
            replace hY1 := hide hY1
            clear hs hkp n1 hX hY kW alx aly
            have q0 := zx.out.c0
            have q1 := zx.out.c1
            have q2' := zx.out.c2
            have q3 := zx.out.c3
            have q4 := zx.out.c4
            have q5 := zx.out.c5
            have p0 := zy.out.c0
            have p1 := zy.out.c1
            have p2 := zy.out.c2
            have p3 := zy.out.c3
            have p4 := zy.out.c4
            have p5 := zy.out.c5
            go_wp2_with fail
            refine hal.out.mono ?_
            rintro e w2 ⟨rfl, k2⟩
            have hs2 := hide (hs1.out.below k2)
            have hkp2 := hide (hkp1.out.kf (Kf.of_below k2))
            have n3 : Hid (w2.heap[b8]? = some (.cells #[.slice (some ⟨ba, offa, none⟩) kn kc, .slice (some ⟨bb, offb, none⟩) kn kc2] 85 (0, 0))) := hide ((k2.block b8 (lt_of_block n2.out)).trans n2.out)
            have hX2 := hide (hX1.out.kf (Kf.of_below k2))
            have hY2 := hide (hY1.out.kf (Kf.of_below k2))
            have yx := hide (zx.out.below k2)
            have yy := hide (zy.out.below k2)
            clear hal q0 q1 q2' q3 q4 q5 p0 p1 p2 p3 p4 p5 hs1 hkp1 n2 hX1 hY1 zx zy k2
            obtain ⟨ab, hab⟩ : ∃ ab, alB r0.1 r0.2 = ab := ⟨_, rfl⟩
            rw [hab]
            cases ab with
            | false =>
              have hfin : Hid (SmR w (t, u) (.returned (.bool false)) w2) := hide ⟨hz.out.symm ▸ hs2.out.bl, false, ⟨fun h => absurd h (by decide), fun h => absurd h (hs2.out.d.bad hab)⟩, rfl⟩
              clear hs2 hkp2 n3 hX2 hY2 yx yy
              go_wp2
              refine bodyPost_ret (results_tmp rfl _ _ _) rfl ?_
              exact hfin.out
            | true =>
              obtain ⟨lx, kx, hlx⟩ := rt_of hX2.out
              obtain ⟨ly, ky, hly⟩ := rt_of hY2.out
              have hx3 := hX2.out
              have hy3 := hY2.out
              rw [hlx] at hx3
              rw [hly] at hy3
              have hkx := (rt_nd hx3).2
              have hky := (rt_nd hy3).2
              have ekx : ksO r0.1 = kx := by rw [hlx, ksO_nd]
              have eky : ksO r0.2 = ky := by rw [hly, ksO_nd]
              have hln : X.kn = Y.kn := by
                have h1 : (ksO r0.1).length = (ksO r0.2).length := by
                  have := hab
                  unfold alB at this
                  simp only [Bool.and_eq_true, decide_eq_true_eq] at this
                  exact this.2.2.2.2
                rw [ekx, eky, hkx.1, hky.1] at h1
                exact h1
              have hax : X.kn = 0 ∨ ∃ b off, X.ka = some ⟨b, off, none⟩ := hkx.2.imp id fun ⟨b, off, e, _⟩ => ⟨b, off, e⟩
              have hay : Y.kn = 0 ∨ ∃ b off, Y.ka = some ⟨b, off, none⟩ := hky.2.imp id fun ⟨b, off, e, _⟩ => ⟨b, off, e⟩
              have hsx := fun W => hide (spanOf_n W X.ka X.kn X.kc hax)
              have hsy := fun W => hide (spanOf_n W Y.ka Y.kn Y.kc hay)
              have hux : Un (SmF bt) w2 (if X.kn = 0 then none else X.ka) := by
                split
                · exact .inl rfl
                · rename_i h0
                  obtain ⟨b, off, e, hF, hu, -⟩ := hkx.2.resolve_left h0
                  exact .inr ⟨b, off, e, hF, hu⟩
              have huy : Un (SmF bt) w2 (if Y.kn = 0 then none else Y.ka) := by
                split
                · exact .inl rfl
                · rename_i h0
                  obtain ⟨b, off, e, hF, hu, -⟩ := hky.2.resolve_left h0
                  exact .inr ⟨b, off, e, hF, hu⟩
              obtain ⟨pa, hpa⟩ : ∃ pa, (if X.kn = 0 then none else X.ka) = pa := ⟨_, rfl⟩
              obtain ⟨pb, hpb⟩ : ∃ pb, (if Y.kn = 0 then none else Y.ka) = pb := ⟨_, rfl⟩
              simp only [spV] at hsx hsy
              rw [hpa] at hux
              rw [hpb] at huy
              simp only [hpa] at hsx
              simp only [hpb] at hsy
              replace hux := hide hux
              replace huy := hide huy
              replace hkx := hide hkx
              replace hky := hide hky
              replace hpa := hide hpa
              replace hpb := hide hpb
              replace hab := hide hab
              replace ekx := hide ekx
              replace eky := hide eky
              replace hln := hide hln
              clear hx3 hy3 hX2 hY2 hlx hly hax hay
              have hbxw : bx < w2.heap.size := yx.out.lt
              have hbYw : bY < w2.heap.size := yy.out.lt
              go_upto_region 13 with (fail)
              go_cut [12] (fun t12 wc => ∃ (bz : Nat), t12 = .pointer (some ⟨bz, 0, none⟩) ∧ w2.heap.size ≤ bz ∧ Hid (B2 wc bz pa X.kn pb Y.kn) ∧ Hid (Below w2.heap.size w2 wc))
              case first =>
                have c5 := yx.out.c5
                have g5 := yy.out.c5
                have hS : ∀ W, Below w2.heap.size w2 W → W.cell? ⟨bx, 5, none⟩ = some (.slice X.ka X.kn X.kc) ∧ W.cell? ⟨bY, 5, none⟩ = some (.slice Y.ka Y.kn Y.kc) := fun W k => ⟨(yx.out.below k).c5, (yy.out.below k).c5⟩
                clear hs2 hkp2 n3 hux huy hkx hky hpa hpb hab ekx eky hln
                refine wp_region_held_drew (S := fun W => W.cell? ⟨bx, 5, none⟩ = some (.slice X.ka X.kn X.kc) ∧ W.cell? ⟨bY, 5, none⟩ = some (.slice Y.ka Y.kn Y.kc)) (by kernel_rfl) (hS _ (grow_drew (Below.refl _ _))) (fun hHeld => ?_)
                show wpAnyH _ _ _ _ _ 9 _ _ _
                have kW := grow_drew (Below.refl w2.heap.size w2)
                generalize w2.drew = wQ at *
                clear c5 g5
                refine wpAnyH_take (i := 0) (oi := ⟨some 55, _, _, _, _, _⟩) (v := ?_) rfl (by kernel_rfl) (by kernel_rfl) (by kernel_rfl) (fun _ _ _ h => by first | exact h | cases h.1) (Or.inl ⟨by rfl, ?_⟩) (by assumption) ?_
                rotate_left
                · intro wq hSw; (try dsimp only at hSw); go_simp; (try with_reducible rfl)
                (try simp only [Act.put, List.setIfInBounds_toArray, List.set_cons_zero, List.set_cons_succ])
                refine wpAnyH_take (i := 1) (oi := ⟨some 56, _, _, _, _, _⟩) (v := ?_) rfl (by kernel_rfl) (by kernel_rfl) (by kernel_rfl) (fun _ _ _ h => by first | exact h | cases h.1) (Or.inl ⟨by rfl, ?_⟩) (by assumption) ?_
                rotate_left
                · intro wq hSw; (try dsimp only at hSw); go_simp; (try with_reducible rfl)
                (try simp only [Act.put, List.setIfInBounds_toArray, List.set_cons_zero, List.set_cons_succ])
                refine wpAnyH_take (i := 3) (oi := ⟨some 58, _, _, _, _, _⟩) (v := ?_) rfl (by kernel_rfl) (by kernel_rfl) (by kernel_rfl) (fun _ _ _ h => by first | exact h | cases h.1) (Or.inl ⟨by rfl, ?_⟩) (by assumption) ?_
                rotate_left
                · intro wq hSw; (try dsimp only at hSw); go_simp; (try with_reducible rfl)
                (try simp only [Act.put, List.setIfInBounds_toArray, List.set_cons_zero, List.set_cons_succ])
                refine wpAnyH_take (i := 4) (oi := ⟨some 59, _, _, _, _, _⟩) (v := ?_) rfl (by kernel_rfl) (by kernel_rfl) (by kernel_rfl) (fun _ _ _ h => by first | exact h | cases h.1) (Or.inl ⟨by rfl, ?_⟩) (by assumption) ?_
                rotate_left
                · intro wq hSw; (try dsimp only at hSw); go_simp; (try with_reducible rfl)
                (try simp only [Act.put, List.setIfInBounds_toArray, List.set_cons_zero, List.set_cons_succ])
                repeat' first
                  | with_reducible exact AllReadyH.nil
                  | (refine wpAnyH_done ?_ ?_ _
                     · decide +kernel
                     clear hHeld hS
                     replace zA := hide zA
                     replace kW := hide kW
                     go_wp2_with fail
                     go_meet
                     case rel => exact ⟨_, rfl, hbA, zA, kW⟩)
                  | (refine wpAnyH_ready (rs := [2, 7]) ?_ ?_ ?_; decide +kernel; simp)
                  | (refine wpAnyH_ready (rs := [5, 7]) ?_ ?_ ?_; decide +kernel; simp)
                  | (refine wpAnyH_ready (rs := [6, 7]) ?_ ?_ ?_; decide +kernel; simp)
                  | (refine wpAnyH_ready (rs := [2]) ?_ ?_ ?_; decide +kernel; simp)
                  | (refine wpAnyH_ready (rs := [5]) ?_ ?_ ?_; decide +kernel; simp)
                  | (refine wpAnyH_ready (rs := [6]) ?_ ?_ ?_; decide +kernel; simp)
                  | (refine wpAnyH_ready (rs := [7]) ?_ ?_ ?_; decide +kernel; simp)
                  | (refine wpAnyH_ready (rs := [8]) ?_ ?_ ?_; decide +kernel; simp)
                  | (
                    first
                      | (
                        refine AllReadyH.cons (i := 2) (o := ⟨some 57, _, _, _, _, _⟩) rfl (fun K hK => ?_) ?_
                        go_simp
                        refine Calls.mono (hsx _).out ?_
                        rintro e wC ⟨rfl, kC⟩
                        try have zA := zA.below kC
                        have kW := grow_step kC kW
                        try go_wp2_with fail)
                      | (
                        refine AllReadyH.cons (i := 5) (o := ⟨some 60, _, _, _, _, _⟩) rfl (fun K hK => ?_) ?_
                        go_simp
                        refine Calls.mono (hsy _).out ?_
                        rintro e wC ⟨rfl, kC⟩
                        try have zA := zA.below kC
                        have kW := grow_step kC kW
                        try go_wp2_with fail)
                      | (
                        refine AllReadyH.cons (i := 6) (o := ⟨some 61, _, _, _, _, _⟩) rfl (fun K hK => ?_) ?_
                        go_simp)
                      | (
                        refine AllReadyH.cons (i := 7) (o := ⟨some 12, _, _, _, _, _⟩) rfl (fun K hK => ?_) ?_
                        obtain ⟨wL, eL, zA, hbA, kL, kW⟩ := al_2 kW
                        go_simp
                        rw [eL.out])
                      | (
                        refine AllReadyH.cons (i := 8) (o := ⟨none, _, _, _, _, _⟩) rfl (fun K hK => ?_) ?_
                        have q0 := zA.c0
                        have q1 := zA.c1
                        have q2' := zA.c2
                        have q3 := zA.c3
                        have f0 := zA.fz 0
                        have f1 := zA.fz 1
                        have f2 := zA.fz 2
                        have f3 := zA.fz 3
                        go_simp
                        rw [s2_fold]
                        have zA := s2_set zA pa X.kn pb Y.kn
                        have kW := below_only kW (s2_only _ _ pa X.kn pb Y.kn) hbA
                        clear q0 q1 q2' q3 f0 f1 f2 f3)
                    refine hK.out _ _ ?_ ?_
                    · exact hS _ kW
                    clear hK K hHeld
                    intro hHeld
                    (try simp only [Act.put, List.setIfInBounds_toArray, List.set_cons_zero, List.set_cons_succ]))
              case rest =>
                obtain ⟨bz, rfl, hbz, zz, kW⟩ := hcut
                clear hsx hsy
                have hs3 := hs2.out.below kW.out
                have hkp3 := hide (hkp2.out.kf (Kf.of_below kW.out))
                have n4 : Hid (wc.heap[b8]? = some (.cells #[.slice (some ⟨ba, offa, none⟩) kn kc, .slice (some ⟨bb, offb, none⟩) kn kc2] 85 (0, 0))) := hide ((kW.out.block b8 (lt_of_block n3.out)).trans n3.out)
                have hkx3 := hide (KL.kf (s := ⟨X.ka, X.kn, X.kc⟩) hkx.out (Kf.of_below kW.out))
                have hky3 := hide (KL.kf (s := ⟨Y.ka, Y.kn, Y.kc⟩) hky.out (Kf.of_below kW.out))
                have yx3 := hide (yx.out.below kW.out)
                have yy3 := hide (yy.out.below kW.out)
                have hux3 := hux.out.kept fun b _ hu => kW.out.block b hu.lt
                have huy3 := huy.out.kept fun b _ hu => kW.out.block b hu.lt
                have hku : SpK2 (SmF bt) wc (sp2 pa X.kn pb Y.kn) := ⟨_, _, _, _, rfl, hux3, huy3⟩
                have hgz := hide (hs3.m.met.get (ky_two (SmF bt) wc) Tryz.underlying83 (zero_e2 wc) hku true)
                have q0 := zz.out.c0
                have q1 := zz.out.c1
                have q2' := zz.out.c2
                have q3 := zz.out.c3
                have hw8 : wr.heap.size ≤ w2.heap.size := by omega
                replace hs3 := hide hs3
                clear hs2 hkp2 n3 hkx hky yx yy hux huy kW
                have be := below_alloc wc (.cells #[] 92)
                have hsA := hide (hs3.out.below be)
                have hkpA := hide (hkp3.out.kf (Kf.of_below be))
                have nA := hide ((be.block b8 (lt_of_block n4.out)).trans n4.out)
                have hd0 := cnt_self (hs3.out.d.dep r0 (.inr List.mem_cons_self))
                rw [ekx.out] at hd0
                rw [List.map_cons, cnL_cons] at hm2
                have hzx : (kz r0).map Prod.fst = kx := by
                  unfold kz
                  rw [ekx.out, eky.out]
                  exact List.map_fst_zip (by rw [hkx3.out.1, hky3.out.1]; exact Nat.le_of_eq hln.out)
                have hzy : (kz r0).map Prod.snd = ky := by
                  unfold kz
                  rw [ekx.out, eky.out]
                  exact List.map_snd_zip (by rw [hkx3.out.1, hky3.out.1]; exact Nat.le_of_eq hln.out.symm)
                have ekz : kz r0 = kx.zip ky := by
                  unfold kz
                  rw [ekx.out, eky.out]
                have hwj : IntKind.i64.wrap ((j : Int) + 1) = ((j + 1 : Nat) : Int) := by
                  rw [IntKind.wrap_i64]
                  omega
                replace ekz := hide ekz
                replace hzx := hide hzx
                replace hzy := hide hzy
                rcases hgz.out with ⟨hno, hl⟩ | ⟨u0, hmem, hl⟩
                · simp only [if_true] at hl
                  unfold sp2 at hl
                  have hux4 := hux3.kept fun b _ hu => be.block b hu.lt
                  have huy4 := huy3.kept fun b _ hu => be.block b hu.lt
                  have heq : (Op.equalIn 9999 87 (.pointer pa) (.pointer pb)).run Tryz.prog (wc.alloc (.cells #[] 92)) = .ok (decide (pa = pb)) (wc.alloc (.cells #[] 92)) := eq_ptr hux4 huy4 9998
                  have hnn : ((X.kn : Int) == (Y.kn : Int)) = true := by
                    rw [hln.out]
                    simp
                  have qa0 := (zz.out.below be).c0
                  have qa1 := (zz.out.below be).c1
                  have qa2 := (zz.out.below be).c2
                  have qa3 := (zz.out.below be).c3
                  by_cases hpp : pa = pb
                  · rw [decide_eq_true hpp] at heq
                    have hsB := hide (hsA.out.see hab.out fun r hr => .inl (same_place hkx3.out hky3.out hln.out hpa.out hpb.out hpp r (ekz.out ▸ hr)))
                    replace hpp := hide hpp
                    clear hux3 huy3 hux4 huy4 hku hgz hs3 hkp3 n4 hsA hkx3 hky3 yx3 yy3 zz be hno
                    go_wp2
                    go_roundw
                    case measure => simp [intOf]; omega
                    case rel => exact ⟨j + 1, _, _, _, _, by omega, rfl, by omega, hv8, hsB, hkpA, nA⟩
                  · rw [decide_eq_false hpp] at heq
                    have hx0 : X.kn ≠ 0 := fun h0 => hpp (by rw [← hpa.out, ← hpb.out, if_pos h0, if_pos (hln.out ▸ h0)])
                    obtain rfl : X.ka = pa := by rw [← hpa.out, if_neg hx0]
                    obtain rfl : Y.ka = pb := by rw [← hpb.out, if_neg (hln.out ▸ hx0)]
                    have hkuA : SpK2 (SmF bt) (wc.alloc (.cells #[] 92)) (sp2 X.ka X.kn Y.ka Y.kn) := ⟨_, _, _, _, rfl, hux4, huy4⟩
                    obtain ⟨w4, E4, hrun, hput, hm4, g4⟩ := hsA.out.m.met.put Tryz.underlying83 hkuA (.agg #[])
                    unfold sp2 at hrun
                    have hbx2 : bx ≠ bt + 2 := by omega
                    have hbY2 : bY ≠ bt + 2 := by omega
                    have c5 := ((yx3.out.below be).grown g4 hbx2).c5
                    have g5 := ((yy3.out.below be).grown g4 hbY2).c5
                    have b5 := below_alloc w4 (.cells #[.slice X.ka X.kn X.kc, .slice Y.ka Y.kn Y.kc] 85)
                    have n5 := heap_alloc_new w4 (.cells #[.slice X.ka X.kn X.kc, .slice Y.ka Y.kn Y.kc] 85)
                    have ho5 := hide ((own_map hsA.out.m.met g4 hsA.out.m.own).alloc (.cells #[.slice X.ka X.kn X.kc, .slice Y.ka Y.kn Y.kc] 85))
                    have hc5 : Hid (∀ j v, (Sl2.enc ⟨⟨X.ka, X.kn, X.kc⟩, ⟨Y.ka, Y.kn, Y.kc⟩⟩)[j]? = some v → (w4.alloc (.cells #[.slice X.ka X.kn X.kc, .slice Y.ka Y.kn Y.kc] 85)).cell? ⟨w4.heap.size, j, none⟩ = some v) := hide fun j v hv => by
                      rw [cell_of_row _ w4.heap.size j _ _ (0, 0) n5, List.getElem?_toArray]
                      exact hv
                    have hz5 : bt + 5 ≤ (w4.alloc (.cells #[.slice X.ka X.kn X.kc, .slice Y.ka Y.kn Y.kc] 85)).heap.size := Nat.le_trans hsA.out.sz (Nat.le_trans g4.size b5.size)
                    have hkab : KP (SmF bt) (wc.alloc (.cells #[] 92)) ⟨⟨X.ka, X.kn, X.kc⟩, ⟨Y.ka, Y.kn, Y.kc⟩⟩ (kz r0) := by
                      refine ⟨?_, ?_⟩
                      · rw [hzx.out]
                        exact KL.kf hkx3.out (Kf.of_below be)
                      · rw [hzy.out]
                        exact KL.kf hky3.out (Kf.of_below be)
                    have g45 := hide (gbb g4 (gb_of b5))
                    have hm5 := hide (Met2.below hm4 b5)
                    have hb82 : b8 ≠ bt + 2 := ub_not_map hsA.out.m.met ⟨_, _, nA.out⟩
                    have hq2 : q2.length = LL2.length := hsA.out.m.pr.1
                    have hq3 : q2.length ≤ 4294967296 := by omega
                    have hszA : b8 < w4.heap.size := Nat.lt_of_lt_of_le (lt_of_block nA.out) g4.size
                    replace hkab := hide hkab
                    replace hput := hide hput
                    replace hq2 := hide hq2
                    clear hux3 huy3 hux4 huy4 hku hkuA hgz hs3 hkp3 n4 yx3 yy3 zz be hno n5 hm4 g4 hpp b5 hpa hpb
                    go_wp2_with (refine appP rfl _ _ rfl (bt + 5) _ q2.length q2 rfl ho5.out ⟨⟨X.ka, X.kn, X.kc⟩, ⟨Y.ka, Y.kn, Y.kc⟩⟩ w4.heap.size rfl hc5.out (by omega) hz5 ?_)
                    intro v' w6 ho6 hg6 hb6
                    have hsC := hide (hsA.out.lay (s := ⟨⟨X.ka, X.kn, X.kc⟩, ⟨Y.ka, Y.kn, Y.kc⟩⟩) hab.out g45.out hput.out hm5.out hkab.out (by rw [ekx.out]; have := hkab.out.1; rw [hzx.out] at this; exact this) (by rw [eky.out]; have := hkab.out.2; rw [hzy.out] at this; exact this) ho6 hg6)
                    have hob7 : ∀ b, u6.ownBlock = some b → bt + 5 ≤ b := fun b e => (hsA.out.m.own.lt b e).1
                    have nC := hide ((hg6.block b8 (Nat.lt_of_lt_of_le (lt_of_block nA.out) g45.out.size) fun e => hv8 e.symm).trans ((g45.out.block b8 (lt_of_block nA.out) fun e => hb82 (Option.some.inj e)).trans nA.out))
                    have hkpC := hide ((hkpA.out.kf (Kf.of_grown g45.out fun h => h.2 rfl)).kf (⟨hg6.size, fun b hb hl => hg6.block b hl fun e => by have := hob7 b e.symm; have := hb.1; omega⟩ : Kf (SmF bt) _ _))
                    have hv9 : v'.ownBlock ≠ some b8 := by
                      rcases hb6 with e | e
                      · rw [e]; exact hv8
                      · rw [e]
                        intro e
                        have := Option.some.inj e
                        have := Nat.lt_of_lt_of_le (lt_of_block nA.out) g45.out.size
                        omega
                    have hmC : (LL2 ++ [kz r0]).length + 2 * cnL f ((LL2 ++ [kz r0]).flatten.map Prod.fst) + 2 * cnL f ((L.drop (j + 1)).map Prod.fst) + (j + 1) ≤ LL'.length + 2 * (cnL f (LL'.flatten.map Prod.fst) + cnL f (L.map Prod.fst)) := by
                      rw [List.length_append, List.length_singleton, List.flatten_append, List.map_append, cnL_append]
                      simp only [List.flatten_cons, List.flatten_nil, List.append_nil]
                      rw [hzx.out]
                      omega
                    obtain ⟨-, av6, cv6, rfl, -⟩ := own_pairs ho6
                    clear ho6 hg6 hb6 ho5 hc5 hm5 hsA g45 hkab hkpA nA hput c5 g5 hob7
                    go_wp2
                    go_roundw
                    case measure => simp [intOf]; omega
                    case rel => exact ⟨j + 1, _, _, _, _, by omega, rfl, hmC, hv9, hsC, hkpC, nC⟩
                · obtain rfl : u0 = .agg #[] := hs3.out.va _ hmem
                  simp only [if_true] at hl
                  unfold sp2 at hl
                  have hsB := hide (hsA.out.see hab.out fun r hr => met_place hsA.out.m (KL.kf hkx3.out (Kf.of_below be)) (KL.kf hky3.out (Kf.of_below be)) hln.out hpa.out hpb.out ⟨_, hmem⟩ r (ekz.out ▸ hr))
                  clear hux3 huy3 hku hgz hs3 hkp3 n4 hsA hkx3 hky3 yx3 yy3 zz be hmem
                  go_wp2
                  go_roundw
                  case measure => simp [intOf]; omega
                  case rel => exact ⟨j + 1, _, _, _, _, by omega, rfl, by omega, hv8, hsB, hkpA, nA⟩
        · obtain rfl : j = kn := by omega
          have hlt2 : decide ((j : Int) < (j : Int)) = false := by simp
          rw [show L.drop j = [] by rw [← hLn.out]; exact List.drop_length] at hs hm2
          rw [show cnL f (([] : List P2).map Prod.fst) = 0 from rfl] at hm2
          clear hkp n1
          go_wp2
          go_roundg (gk - 1)
          case measure => omega
          case rel => exact ⟨_, _, _, _, by omega, by omega, hs⟩
end Sx
end Go.Proofs.YtgpaajolcpgeaaaGreatDoor

namespace Go.Proofs.YtgpaajolcpgeaaaGreatDoor
open Go.RowKit
namespace Sx

/-- these words are written, a blank is next -/
def Out (p : Ps) (ds : List TD) : Prop := p.g = false ∧ p.l ≠ [] ∧ Pre p.l ds false
/-- these words are written, any word may be next -/
def Rdy (p : Ps) (ds : List TD) : Prop := ∃ g, Pre p.l ds g ∧ ((p.g = false ∧ p.l ≠ []) ∨ g = true)
theorem Out.rdy {p : Ps} {ds : List TD} (h : Out p ds) : Rdy p ds := ⟨false, h.2.2, .inl ⟨h.1, h.2.1⟩⟩
/-- f writes these words -/
def Sc (f : Ps → Ps) (ws : List TD) : Prop := ∀ p, (f p).o = false → p.o = false ∧ ∀ ds, Rdy p ds → Out (f p) (ds ++ ws)
def Sd (f : Ps → Ps) (ws : List TD) : Prop := ∀ p, (f p).o = false → p.o = false ∧ ∀ ds, Out p ds → Out (f p) (ds ++ ws)
theorem Sc.sd {f : Ps → Ps} {ws : List TD} (h : Sc f ws) : Sd f ws := fun p hp => ⟨(h p hp).1, fun ds hd => (h p hp).2 ds hd.rdy⟩
theorem sc_sd {f f' : Ps → Ps} {ws ws' : List TD} (h : Sc f ws) (h' : Sd f' ws') : Sc (fun p => f' (f p)) (ws ++ ws') := fun p hp => by
 obtain ⟨h1, h2⟩ := h' _ hp
 obtain ⟨h3, h4⟩ := h p h1
 refine ⟨h3, fun ds hd => ?_⟩
 rw [← List.append_assoc]
 exact h2 _ (h4 ds hd)
theorem sd_sd {f f' : Ps → Ps} {ws ws' : List TD} (h : Sd f ws) (h' : Sd f' ws') : Sd (fun p => f' (f p)) (ws ++ ws') := fun p hp => by
 obtain ⟨h1, h2⟩ := h' _ hp
 obtain ⟨h3, h4⟩ := h p h1
 refine ⟨h3, fun ds hd => ?_⟩
 rw [← List.append_assoc]
 exact h2 _ (h4 ds hd)
theorem sd_id : Sd id [] := fun p hp => ⟨hp, fun ds hd => by rw [List.append_nil]; exact hd⟩
theorem wrd_pre {t : TD} {g g' : Bool} (ht : Tk t g') {p : Ps} {ds : List TD} (hp : (wrd t.text.data.toList p).o = false) (h : Pre p.l ds g) (hb : ¬ (0 < p.l.length ∧ p.g = false) → Nok g (bt t.text 0)) :
  p.o = false ∧ (wrd t.text.data.toList p).g = false ∧ (wrd t.text.data.toList p).l ≠ [] ∧ Pre (wrd t.text.data.toList p).l (ds ++ [t]) g' := by
 unfold wrd at hp ⊢
 by_cases ho : p.o = true
 ·rw [if_pos ho, ho] at hp
  cases hp
 ·rw [if_neg ho]
  refine ⟨by simpa using ho, rfl, fun e => ?_, ?_⟩
  ·have h1 := congrArg List.length e
   have h2 := ht.pos
   rw [List.length_append] at h1
   change _ + t.text.size = 0 at h1
   omega
  ·by_cases hc : 0 < p.l.length ∧ p.g = false
   ·show Pre ((if 0 < p.l.length ∧ p.g = false then p.l ++ [32] else p.l) ++ t.text.data.toList) _ _
    rw [if_pos hc]
    exact pre_word h ht true fun e => by cases e
   ·show Pre ((if 0 < p.l.length ∧ p.g = false then p.l ++ [32] else p.l) ++ t.text.data.toList) _ _
    rw [if_neg hc]
    exact pre_word h ht false fun _ => hb hc
theorem Pre.low {l : List UInt8} {ds : List TD} : ∀ {g : Bool}, Pre l ds g → Pre l ds false
 | true, h => h.loose
 | false, h => h
theorem rdy_nok {p : Ps} {g : Bool} (h : (p.g = false ∧ p.l ≠ []) ∨ g = true) {c : Nat} (hc : c ≠ 61) : ¬ (0 < p.l.length ∧ p.g = false) → Nok g c := fun hn => by
 rcases h with ⟨h1, h2⟩ | rfl
 ·exact absurd ⟨List.length_pos_iff.2 h2, h1⟩ hn
 ·exact ⟨hc, fun e => by cases e⟩
/-- a word -/
theorem sc_word {t : TD} {g : Bool} (ht : Tk t g) (h61 : bt t.text 0 ≠ 61) : Sc (wrd t.text.data.toList) [t] := fun p hp => by
 have ho : p.o = false := by
  unfold wrd at hp
  by_cases ho : p.o = true
  ·rw [if_pos ho, ho] at hp; cases hp
  ·simpa using ho
 refine ⟨ho, fun ds ⟨g, h1, h2⟩ => ?_⟩
 obtain ⟨-, q1, q2, q3⟩ := wrd_pre ht hp h1 (rdy_nok h2 h61)
 exact ⟨q1, q2, q3.low⟩
theorem sd_word {t : TD} {g : Bool} (ht : Tk t g) : Sd (wrd t.text.data.toList) [t] := fun p hp => by
 have ho : p.o = false := by
  unfold wrd at hp
  by_cases ho : p.o = true
  ·rw [if_pos ho, ho] at hp; cases hp
  ·simpa using ho
 refine ⟨ho, fun ds hd => ?_⟩
 obtain ⟨-, q1, q2, q3⟩ := wrd_pre ht hp hd.2.2 fun hn => absurd ⟨List.length_pos_iff.2 hd.2.1, hd.1⟩ hn
 exact ⟨q1, q2, q3.low⟩
/-- a word that the next one stands tight to -/
theorem sc_tight {t : TD} (ht : Tk t true) (h61 : bt t.text 0 ≠ 61) {f : Ps → Ps} {ws : List TD} (hf : Sc f ws) : Sc (fun p => f (gl true (wrd t.text.data.toList p))) (t :: ws) := fun p hp => by
 obtain ⟨h1, h2⟩ := hf _ hp
 have h1' : (wrd t.text.data.toList p).o = false := h1
 refine ⟨((sc_word ht h61) p h1').1, fun ds ⟨g, h3, h4⟩ => ?_⟩
 obtain ⟨-, -, -, q3⟩ := wrd_pre ht h1' h3 (rdy_nok h4 h61)
 rw [show ds ++ t :: ws = (ds ++ [t]) ++ ws by simp]
 exact h2 _ ⟨true, q3, .inr rfl⟩
/-- a word that stands tight to the one before -/
theorem sd_close {t : TD} {g : Bool} (ht : Tk t g) (h61 : bt t.text 0 ≠ 61) (hr : inRow (bt t.text 0) = false) : Sd (fun p => wrd t.text.data.toList (gl true p)) [t] := fun p hp => by
 have hp' : (wrd t.text.data.toList (gl true p)).o = false := hp
 have h0 := ((sc_word ht h61) (gl true p) hp').1
 refine ⟨h0, fun ds hd => ?_⟩
 obtain ⟨-, q1, q2, q3⟩ := wrd_pre (p := gl true p) ht hp' hd.2.2 fun _ => ⟨h61, fun _ => hr⟩
 exact ⟨q1, q2, q3.low⟩
/-- the words of the kinds, parentheses, the dot -/
theorem tk_of {x : ByteArray} {k n : Int} (h : Wd x 0 ⟨k, x, n, 0⟩) (h0 : 0 < x.size) (hn : cls (bt x 0) ≠ 0) : Tk ⟨k, x, n, 0⟩ false :=
 ⟨h0, hn, fun _ _ h1 h2 h3 => wd_at h h0 h1 h2 fun hl => ⟨(h3 hl).2 rfl, (h3 hl).1⟩⟩
theorem tk_tight {c : UInt8} (hc : c = 40 ∨ c = 45) : Tk ⟨4, ⟨#[c]⟩, 0, 0⟩ true := by
 refine ⟨by show 0 < 1; omega, ?_, fun S a h1 h2 _ => wd_tight ?_ ?_ hc⟩
 ·rcases hc with rfl | rfl <;> decide
 ·change a + 1 ≤ S.size at h1; omega
 ·have := h2 0 (by show 0 < 1; omega)
  rw [Nat.add_zero] at this
  rw [this]
  rfl
theorem tk_op : Tk opT true := tk_tight (.inl rfl)
theorem tk_neg : Tk (wkT 3) true := tk_tight (.inr rfl)
theorem sgOf_self {x : ByteArray} (hs : (x.size = 2 ∧ (bt x 0 = 60 ∨ bt x 0 = 62 ∨ bt x 0 = 33) ∧ bt x 1 = 61) ∨ (x.size = 1 ∧ sg1 (bt x 0) = true)) : x = sgOf (x.extract 0 x.size) := by
 have e : x.extract 0 x.size = x := by
  refine ba_ext (by rw [size_suffix]; omega) fun i hi => ?_
  rw [size_suffix] at hi
  rw [bt_suffix (by omega), Nat.zero_add]
 rw [e]
 have e0 := sgOf_size (s := x) (by omega)
 change _ = if twoB x = true then 2 else _ at e0
 have hz : (sgOf x).size = x.size := by
  rcases hs with ⟨h1, h2, h3⟩ | ⟨h1, h2⟩
  ·rw [e0, if_pos (twoB_iff.2 ⟨by omega, h2, h3⟩), h1]
  ·rw [e0, if_neg (fun h => by have := (twoB_iff.1 h).1; omega), if_pos h2, h1]
 have h4 := sgOf_eq (s := x) (by omega)
 rw [hz, e] at h4
 exact h4.symm
theorem tk_sg {x : ByteArray} (hs : (x.size = 2 ∧ (bt x 0 = 60 ∨ bt x 0 = 62 ∨ bt x 0 = 33) ∧ bt x 1 = 61) ∨ (x.size = 1 ∧ sg1 (bt x 0) = true)) (hc : cls (bt x 0) = 4) : Tk ⟨4, x, 0, 0⟩ false := by
 refine tk_of ⟨rfl, by show 0 + x.size ≤ _; omega, ?_, .inr (.inr ⟨by rw [hc]; decide, by rw [hc]; decide, sgOf_self hs, by show 0 < x.size; omega, rfl, rfl⟩)⟩ (by omega) (by rw [hc]; decide)
 show x = x.extract 0 (0 + x.size)
 rw [Nat.zero_add]
 refine ba_ext (by rw [size_suffix]; omega) fun i hi => ?_
 rw [bt_suffix (by omega), Nat.zero_add]
theorem tk_cl : Tk clT false := tk_sg (.inr ⟨rfl, by decide⟩) (by decide)
theorem tk_dot : Tk dtT false := tk_sg (.inr ⟨rfl, by decide⟩) (by decide)
theorem tk_row {x : ByteArray} (h0 : 0 < x.size) (hc : cls (bt x 0) = 2) (hr : ∀ j, j < x.size → inRow (bt x j) = true) (hk : kd x ≠ 0) : Tk ⟨kd x, x, 0, 0⟩ false := by
 have e : x.extract 0 x.size = x := by
  refine ba_ext (by rw [size_suffix]; omega) fun i hi => ?_
  rw [size_suffix] at hi
  rw [bt_suffix (by omega), Nat.zero_add]
 refine tk_of ⟨rfl, by show 0 + x.size ≤ _; omega, ?_, .inr (.inl ⟨hc, ⟨by show 0 + x.size ≤ _; omega, fun j hj => by rw [Nat.zero_add]; exact hr j hj, fun h => ?_⟩, rfl, hk, rfl⟩)⟩ h0 (by rw [hc]; decide)
 ·show x = x.extract 0 (0 + x.size)
  rw [Nat.zero_add, e]
 ·change 0 + x.size < x.size at h
  omega
end Sx
end Go.Proofs.YtgpaajolcpgeaaaGreatDoor

namespace Go.Proofs.YtgpaajolcpgeaaaGreatDoor
open Go.RowKit
namespace Sx

theorem tk_wk {k : Int} (h : 3 ≤ k ∧ k ≤ 22) : Tk (wkT k) false := by
 have hr : ∀ x : ByteArray, 0 < x.size → cls (bt x 0) = 2 → (∀ j, j < x.size → inRow (bt x j) = true) → kd x = 3 → Tk ⟨3, x, 0, 0⟩ false := fun x h0 h1 h2 h3 => by
  have := tk_row h0 h1 h2 (by rw [h3]; decide)
  rwa [h3] at this
 refine kinds (P := fun k => 3 ≤ k → Tk (wkT k) false) ⟨by omega, h.2⟩ ?_ h.1
 refine ⟨fun h => absurd h (by decide), fun h => absurd h (by decide), fun _ => ?_, fun _ => ?_, fun _ => ?_, fun _ => ?_, fun _ => ?_, fun _ => ?_, fun _ => ?_, fun _ => ?_, fun _ => ?_, fun _ => ?_, fun _ => ?_, fun _ => ?_, fun _ => ?_, fun _ => ?_, fun _ => ?_, fun _ => ?_, fun _ => ?_, fun _ => ?_, fun _ => ?_, fun _ => ?_⟩
 ·exact tk_sg (.inr ⟨rfl, by decide⟩) (by decide)
 ·exact tk_sg (.inr ⟨rfl, by decide⟩) (by decide)
 ·exact tk_sg (.inr ⟨rfl, by decide⟩) (by decide)
 ·exact tk_sg (.inr ⟨rfl, by decide⟩) (by decide)
 ·exact hr _ (by decide) (by decide) (by decide) (by kernel_rfl)
 ·exact hr _ (by decide) (by decide) (by decide) (by kernel_rfl)
 ·exact tk_sg (.inr ⟨rfl, by decide⟩) (by decide)
 ·exact tk_sg (.inl ⟨rfl, by decide, by decide⟩) (by decide)
 ·exact tk_sg (.inr ⟨rfl, by decide⟩) (by decide)
 ·exact tk_sg (.inl ⟨rfl, by decide, by decide⟩) (by decide)
 ·exact tk_sg (.inl ⟨rfl, by decide, by decide⟩) (by decide)
 ·exact tk_sg (.inr ⟨rfl, by decide⟩) (by decide)
 all_goals exact hr _ (by decide) (by decide) (by decide) (by kernel_rfl)
theorem wk_61 {k : Int} (h : 3 ≤ k ∧ k ≤ 22) (h11 : k ≠ 11) : bt (wkT k).text 0 ≠ 61 := by
 refine kinds (P := fun k => 3 ≤ k → k ≠ 11 → bt (wkT k).text 0 ≠ 61) ⟨by omega, h.2⟩ ?_ h.1 h11
 refine ⟨?_, ?_, ?_, ?_, ?_, ?_, ?_, ?_, ?_, ?_, ?_, ?_, ?_, ?_, ?_, ?_, ?_, ?_, ?_, ?_, ?_, ?_⟩ <;> intro _ h
 all_goals first | exact absurd rfl h | decide
/-- what a label's own words are to be -/
structure Wt (l : Lab) : Prop where
 nu : l.k = 1 ∨ l.k = 6 ∨ l.k = 15 → l.s = false ∧ Tk (nuT l.xs) false ∧ bt (nuT l.xs).text 0 ≠ 61
 na : l.k = 2 → Tk (naT l.nm) false ∧ bt (naT l.nm).text 0 ≠ 61
 ns : ∀ s ∈ l.nms, Tk (naT s) false
theorem sc_num {l : Lab} (hw : Wt l) (hk : l.k = 1 ∨ l.k = 6 ∨ l.k = 15) : Sc (numW l.s l.xs) [nuT l.xs] := fun p hp => by
 obtain ⟨h1, h2, h3⟩ := hw.nu hk
 unfold numW at hp ⊢
 split at hp
 ·cases hp
 ·rename_i hn
  rw [if_neg hn]
  rw [h1] at hp ⊢
  exact sc_word h2 h3 p hp
theorem sd_nms : ∀ (ns : List ByteArray), (∀ s ∈ ns, Tk (naT s) false) → Sd (nmsW ns) (ns.map naT) := by
 intro ns
 induction ns with
 | nil => exact fun _ => sd_id
 | cons s ns ih => exact fun h => sd_sd (sd_word (h s (by simp))) (ih fun x hx => h x (by simp [hx]))
theorem sd_gl {f : Ps → Ps} {ws : List TD} (h : Sc f ws) : Sc (fun p => gl false (f p)) ws := fun p hp => ⟨(h p hp).1, fun ds hd => ⟨rfl, ((h p hp).2 ds hd).2⟩⟩
/-- a word ahead, names, a kid -/
theorem sc_ah {pt : Pt} {pw : Pw} {t : Tr} {last : Bool} (hk : 3 ≤ (lbO t).k ∧ (lbO t).k ≤ 22) (h11 : (lbO t).k ≠ 11) (h3 : (lbO t).k = 3 → (lbO t).nms = []) (hn : ∀ s ∈ (lbO t).nms, Tk (naT s) false)
  (hp : ∀ pl l, Sc (pt ((ksO t).headD t) pl l) (pw ((ksO t).headD t) pl l)) : Sc (ahD pt t last) (ahW pw t last) := by
 unfold ahD ahW
 by_cases e3 : (lbO t).k = 3
 ·rw [e3, h3 e3, show qnt 3 = false from rfl]
  exact sc_tight tk_neg (by decide) (hp _ last)
 ·rw [show ((lbO t).k == 3) = false by simpa using e3]
  have h1 := sd_gl (sc_word (tk_wk hk) (wk_61 hk h11))
  have h2 := sc_sd h1 (sd_nms _ hn)
  cases hq : qnt (lbO t).k with
  | true =>
   have h4 := sc_sd (sc_sd h2 (sd_word tk_dot)) (hp (pIn (lbO t).k true) last).sd
   rw [List.append_assoc, List.append_assoc] at h4
   rw [if_pos rfl, if_pos rfl]
   exact h4
  | false =>
   have h4 := sc_sd h2 (hp (pIn (lbO t).k true) last).sd
   rw [List.append_assoc] at h4
   rw [if_neg (by decide), if_neg (by decide)]
   exact h4
/-- kids with a word between -/
theorem sc_bt {pt : Pt} {pw : Pw} {t : Tr} {last : Bool} (hk : 3 ≤ (lbO t).k ∧ (lbO t).k ≤ 22) (hp : ∀ i, i < (ksO t).length → ∀ pl l, Sc (pt ((ksO t).getD i t) pl l) (pw ((ksO t).getD i t) pl l)) : ∀ i, i < (ksO t).length → Sc (btD pt t last (i + 1)) (btW pw t last (i + 1)) := by
 intro i
 induction i with
 | zero =>
  intro h
  show Sc (fun p => pt ((ksO t).getD 0 t) _ _ ((if 0 < 0 then wrd _ else id) p)) ([] ++ ((if 0 < 0 then [wkT (lbO t).k] else []) ++ pw _ _ _))
  rw [if_neg (by omega), if_neg (by omega)]
  exact hp 0 h _ _
 | succ i ih =>
  intro h
  have h1 := sc_sd (ih (by omega)) (sd_sd (sd_word (tk_wk hk)) (hp (i + 1) h (pIn (lbO t).k (i + 1 == 0)) (last && (i + 1 + 1 == (ksO t).length))).sd)
  show Sc (fun p => pt ((ksO t).getD (i + 1) t) _ _ ((if 0 < i + 1 then wrd (wd (lbO t).k.toNat).data.toList else id) (btD pt t last (i + 1) p))) (btW pw t last (i + 1) ++ ((if 0 < i + 1 then [wkT (lbO t).k] else []) ++ pw ((ksO t).getD (i + 1) t) (pIn (lbO t).k (i + 1 == 0)) (last && (i + 1 + 1 == (ksO t).length))))
  rw [if_pos (by omega), if_pos (by omega)]
  exact h1
end Sx
end Go.Proofs.YtgpaajolcpgeaaaGreatDoor

namespace Go.Proofs.YtgpaajolcpgeaaaGreatDoor
open Go.RowKit
namespace Sx

/-- nothing that goes on at the place p -/
structure Sp (p : Nat) (r : List TD) : Prop where
 m : hd r ≠ wd 6
 s : amo 4 2 (hd r) = 0
 a : p ≤ 3 → hd r ≠ wd 17
 o : p ≤ 2 → hd r ≠ wd 18
 i : p ≤ 1 → hd r ≠ wd 19
theorem Sp.mono {p p' : Nat} {r : List TD} (h : Sp p r) (hp : p ≤ p') : Sp p' r := ⟨h.m, h.s, fun x => h.a (by omega), fun x => h.o (by omega), fun x => h.i (by omega)⟩
/-- an end, or a closing word -/
def Cz (r : List TD) : Prop := r = [] ∨ hd r = cls'
theorem cz_sp {r : List TD} (h : Cz r) : Sp 0 r ∧ hd r ≠ wd 20 := by
 rcases h with rfl | h
 ·exact ⟨⟨show (⟨#[]⟩ : ByteArray) ≠ wd 6 by decide, show amo 4 2 ⟨#[]⟩ = 0 by decide, fun _ => show (⟨#[]⟩ : ByteArray) ≠ wd 17 by decide, fun _ => show (⟨#[]⟩ : ByteArray) ≠ wd 18 by decide, fun _ => show (⟨#[]⟩ : ByteArray) ≠ wd 19 by decide⟩, show (⟨#[]⟩ : ByteArray) ≠ wd 20 by decide⟩
 ·refine ⟨⟨?_, ?_, fun _ => ?_, fun _ => ?_, fun _ => ?_⟩, ?_⟩ <;> rw [h] <;> decide
theorem sp_w {p : Nat} {k : Int} {r : List TD} (h : (9 ≤ k ∧ k ≤ 14 ∧ p = 4) ∨ (k = 17 ∧ p = 4) ∨ (k = 18 ∧ p = 3) ∨ (k = 19 ∧ p = 2) ∨ (k = 20 ∧ p = 1)) : Sp p (wkT k :: r) := by
 have hw : ∀ s : ByteArray, (wkT k).text = s → (s ≠ wd 6 ∧ amo 4 2 s = 0 ∧ (p ≤ 3 → s ≠ wd 17) ∧ (p ≤ 2 → s ≠ wd 18) ∧ (p ≤ 1 → s ≠ wd 19)) → Sp p (wkT k :: r) := by
  rintro _ rfl ⟨h1, h2, h3, h4, h5⟩
  exact ⟨h1, h2, h3, h4, h5⟩
 rcases h with ⟨h1, h2, rfl⟩ | ⟨rfl, rfl⟩ | ⟨rfl, rfl⟩ | ⟨rfl, rfl⟩ | ⟨rfl, rfl⟩
 ·obtain rfl | rfl | rfl | rfl | rfl | rfl : k = 9 ∨ k = 10 ∨ k = 11 ∨ k = 12 ∨ k = 13 ∨ k = 14 := by omega
  all_goals exact hw _ rfl (by decide)
 all_goals exact hw _ rfl (by decide)
/-- reading at the place p: 0 a formula (goes on in its loop), 1 implied, 2 ored, 3 anded, 4 notted -/
def Rp (e p : Nat) (ts : List TD) (t : Tr) (r : List TD) : Prop :=
 (p = 4 → Sp 4 r → Rds e 7 [] ts t r) ∧ (p = 3 → Sp 3 r → Rds e 5 [] ts t r) ∧ (p = 2 → Sp 2 r → Rds e 3 [] ts t r) ∧ (p = 1 → Sp 1 r → Rds e 2 [] ts t r) ∧
  (p = 0 → ∀ v q, Sp 1 r → Rds e 1 [t] r v q → Rds e 0 [] ts v q)
theorem rp_step {e p : Nat} {ts r : List TD} {t : Tr} (hp : p < 4) (h : Rp e (p + 1) ts t r) : Rp e p ts t r := by
 obtain ⟨h4, h3, h2, h1, h0⟩ := h
 refine ⟨fun x => by omega, fun x hs => ?_, fun x hs => ?_, fun x hs => ?_, fun x v q hs h => ?_⟩
 ·exact rds_5 (h4 (by omega) (hs.mono (by omega))) (rds_6e (acc := [t]) (hs.a (by omega)))
 ·exact rds_3 (h3 (by omega) (hs.mono (by omega))) (rds_4e (acc := [t]) (hs.o (by omega)))
 ·exact rds_2 (h2 (by omega) (hs.mono (by omega))) (hs.i (by omega))
 ·exact rds_0 (h1 (by omega) hs) h
theorem rp_down {e : Nat} {ts r : List TD} {t : Tr} (d : Nat) : ∀ {p : Nat}, p + d ≤ 4 → Rp e (p + d) ts t r → Rp e p ts t r := by
 induction d with
 | zero => exact fun _ h => h
 | succ d ih => exact fun hp h => ih (by omega) (rp_step (by omega) h)
theorem rp_le {e p p' : Nat} {ts r : List TD} {t : Tr} (h : p ≤ p') (h4 : p' ≤ 4) (hr : Rp e p' ts t r) : Rp e p ts t r := by
 obtain ⟨d, rfl⟩ := Nat.le.dest h
 exact rp_down d h4 hr
/-- .. as a whole -/
theorem rp_whole {e p : Nat} {ts r : List TD} {t : Tr} (hp : p ≤ 4) (h : Rp e p ts t r) (hz : Cz r) : Rds e 0 [] ts t r :=
 (rp_le (Nat.zero_le p) hp h).2.2.2.2 rfl t r ((cz_sp hz).1.mono (by omega)) (rds_1e (acc := [t]) (cz_sp hz).2)
/-- the place of a kind among those -/
def p4 (k : Int) : Nat := if k = 17 then 3 else if k = 18 then 2 else if k = 19 then 1 else if k = 20 then 0 else 4
theorem p4_le (k : Int) : p4 k ≤ 4 := by unfold p4; (repeat' split) <;> omega
theorem p4_of {k : Int} (h : 7 ≤ k ∧ k ≤ 22) (p : Nat) (hp : p ≤ 4) : ¬ pOf k < (p : Int) → p ≤ p4 k := by
 refine kinds (P := fun k => 7 ≤ k → ¬ pOf k < (p : Int) → p ≤ p4 k) ⟨by omega, h.2⟩ ?_ h.1
 refine ⟨?_, ?_, ?_, ?_, ?_, ?_, ?_, ?_, ?_, ?_, ?_, ?_, ?_, ?_, ?_, ?_, ?_, ?_, ?_, ?_, ?_, ?_⟩ <;> simp [pOf, p4] <;> omega
/-- what reading a formula's words says -/
def FF (e n : Nat) (t : Tr) : Prop := ∀ last r p, (last = true → Cz r) → p ≤ 4 → Rp e p (paW n t (p : Int) last ++ r) t r
/-- .. its words without parentheses -/
def BB (e n : Nat) (t : Tr) : Prop := ∀ last r, (last = true → Cz r) → (qnt (lbO t).k = true → last = true) → Rp e (p4 (lbO t).k) (brW (paW n) t last ++ r) t r
theorem ff_of {e n : Nat} {t : Tr} (hk : 7 ≤ (lbO t).k ∧ (lbO t).k ≤ 22) (h : BB e n t) : FF e (n + 1) t := by
 intro last r p hz hp
 show Rp e p ((if pOf (lbO t).k < (p : Int) ∨ (qnt (lbO t).k = true ∧ last = false) then opT :: (brW (paW n) t true ++ [clT]) else brW (paW n) t last) ++ r) t r
 split
 ·refine rp_le hp (Nat.le_refl 4) ⟨fun _ _ => ?_, fun x => by omega, fun x => by omega, fun x => by omega, fun x => by omega⟩
  rw [List.cons_append, List.append_assoc]
  exact rds_7 (show opn ≠ wd 16 by decide) (show amo 21 2 opn = 0 by decide) (rds_8p (r := clT :: r) (show amo 7 2 opn = 0 by decide) rfl (rp_whole (p4_le _) (h true (clT :: r) (fun _ => .inr rfl) fun _ => rfl) (.inr rfl)) rfl)
 ·rename_i hn
  rw [not_or] at hn
  refine rp_le (p4_of hk p hp hn.1) (p4_le _) (h last r hz fun hq => ?_)
  cases last with
  | true => rfl
  | false => exact absurd ⟨hq, rfl⟩ hn.2
end Sx
end Go.Proofs.YtgpaajolcpgeaaaGreatDoor

namespace Go.Proofs.YtgpaajolcpgeaaaGreatDoor
open Go.RowKit
namespace Sx

theorem rp_4 {e : Nat} {ts r : List TD} {t : Tr} (h : Sp 4 r → Rds e 7 [] ts t r) : Rp e 4 ts t r := ⟨fun _ => h, fun x => by omega, fun x => by omega, fun x => by omega, fun x => by omega⟩
theorem rp_3 {e : Nat} {ts r : List TD} {t : Tr} (h : Sp 3 r → Rds e 5 [] ts t r) : Rp e 3 ts t r := ⟨fun x => by omega, fun _ => h, fun x => by omega, fun x => by omega, fun x => by omega⟩
theorem rp_2 {e : Nat} {ts r : List TD} {t : Tr} (h : Sp 2 r → Rds e 3 [] ts t r) : Rp e 2 ts t r := ⟨fun x => by omega, fun x => by omega, fun _ => h, fun x => by omega, fun x => by omega⟩
theorem rp_1 {e : Nat} {ts r : List TD} {t : Tr} (h : Sp 1 r → Rds e 2 [] ts t r) : Rp e 1 ts t r := ⟨fun x => by omega, fun x => by omega, fun x => by omega, fun _ => h, fun x => by omega⟩
theorem rp_0 {e : Nat} {ts r : List TD} {t : Tr} (h : ∀ v q, Sp 1 r → Rds e 1 [t] r v q → Rds e 0 [] ts v q) : Rp e 0 ts t r := ⟨fun x => by omega, fun x => by omega, fun x => by omega, fun x => by omega, fun _ => h⟩
theorem amo_96 {k : Int} (h : 9 ≤ k ∧ k ≤ 14) : ((amo 9 6 (wkT k).text : Nat) : Int) = k ∧ amo 9 6 (wkT k).text ≠ 0 ∧ (wkT k).text ≠ wd 15 ∧ (wkT k).text ≠ wd 6 ∧ amo 4 2 (wkT k).text = 0 := by
 obtain rfl | rfl | rfl | rfl | rfl | rfl : k = 9 ∨ k = 10 ∨ k = 11 ∨ k = 12 ∨ k = 13 ∨ k = 14 := by omega
 all_goals decide
theorem amo_78 {k : Int} (h : k = 7 ∨ k = 8) : ((amo 7 2 (wkT k).text : Nat) : Int) = k ∧ amo 7 2 (wkT k).text ≠ 0 ∧ (wkT k).text ≠ wd 16 ∧ amo 21 2 (wkT k).text = 0 := by
 rcases h with rfl | rfl <;> decide
theorem amo_212 {k : Int} (h : k = 21 ∨ k = 22) : ((amo 21 2 (wkT k).text : Nat) : Int) = k ∧ amo 21 2 (wkT k).text ≠ 0 ∧ (wkT k).text ≠ wd 16 := by
 rcases h with rfl | rfl <;> decide
theorem nms_map (ns : List ByteArray) (r : List TD) : nms (ns.map naT ++ dtT :: r) = (ns, dtT :: r) := by
 induction ns with
 | nil => rfl
 | cons s ns ih =>
  show (if (2 : Int) = 2 then (s :: (nms (ns.map naT ++ dtT :: r)).1, (nms (ns.map naT ++ dtT :: r)).2) else _) = _
  rw [if_pos rfl, ih]
/-- kids with a word between: what is behind the first i of them -/
def twW (pt : Pw) (t : Tr) (last : Bool) (i : Nat) : List TD := (List.range' i ((ksO t).length - i)).flatMap fun j => wkT (lbO t).k :: pt ((ksO t).getD j t) (pIn (lbO t).k false) (last && (j + 1 == (ksO t).length))
theorem bt_tw {pt : Pw} {t : Tr} {last : Bool} (d : Nat) : ∀ {i : Nat}, 0 < i → i + d = (ksO t).length → btW pt t last (i + d) = btW pt t last i ++ twW pt t last i := by
 induction d with
 | zero =>
  intro i _ hi
  show _ = _ ++ (List.range' i ((ksO t).length - i)).flatMap _
  rw [show (ksO t).length - i = 0 by omega]
  simp
 | succ d ih =>
  intro i h0 hi
  have h1 := ih (i := i + 1) (by omega) (by omega)
  rw [show i + (d + 1) = i + 1 + d by omega, h1]
  have h2 : twW pt t last i = (wkT (lbO t).k :: pt ((ksO t).getD i t) (pIn (lbO t).k false) (last && (i + 1 == (ksO t).length))) ++ twW pt t last (i + 1) := by
   unfold twW
   rw [show (ksO t).length - i = ((ksO t).length - (i + 1)) + 1 by omega, List.range'_succ, List.flatMap_cons]
  rw [h2]
  show (btW pt t last i ++ ((if 0 < i then [wkT (lbO t).k] else []) ++ pt ((ksO t).getD i t) (pIn (lbO t).k (i == 0)) (last && (i + 1 == (ksO t).length)))) ++ _ = _
  rw [if_pos h0, show (i == 0) = false from by simp; omega]
  simp
theorem tw_nil {pt : Pw} {t : Tr} {last : Bool} {i : Nat} (h : i = (ksO t).length) : twW pt t last i = [] := by
 unfold twW
 rw [show (ksO t).length - i = 0 by omega]
 rfl
theorem tw_cons {pt : Pw} {t : Tr} {last : Bool} {i : Nat} (h : i < (ksO t).length) : twW pt t last i = (wkT (lbO t).k :: pt ((ksO t).getD i t) (pIn (lbO t).k false) (last && (i + 1 == (ksO t).length))) ++ twW pt t last (i + 1) := by
 unfold twW
 rw [show (ksO t).length - i = ((ksO t).length - (i + 1)) + 1 by omega, List.range'_succ, List.flatMap_cons]
theorem loop_17 {e n : Nat} {t : Tr} {last : Bool} {r : List TD} (hkk : (lbO t).k = 17) (hF : ∀ a ∈ ksO t, FF e n a) (hz : last = true → Cz r) (hs : Sp 3 r) (d : Nat) : ∀ {i : Nat} {acc : List Tr}, i + d = (ksO t).length → Rds e 6 acc (twW (paW n) t last i ++ r) (row 17 (acc ++ (ksO t).drop i)) r := by
 induction d with
 | zero =>
  intro i acc hi
  rw [tw_nil (by omega), List.drop_eq_nil_of_le (by omega), List.append_nil, List.nil_append]
  exact rds_6e (hs.a (by omega))
 | succ d ih =>
  intro i acc hi
  have hg : (ksO t).getD i t = (ksO t)[i]'(by omega) := by simp [List.getD, show i < (ksO t).length by omega]
  have hsp : Sp 4 (twW (paW n) t last (i + 1) ++ r) := by
   rcases Nat.eq_or_lt_of_le (show i + 1 ≤ (ksO t).length by omega) with h | h
   ·rw [tw_nil h, List.nil_append]
    exact hs.mono (by omega)
   ·rw [tw_cons h, hkk, List.append_assoc, List.cons_append]
    exact sp_w (.inr (.inl ⟨rfl, rfl⟩))
  have hz2 : (last && (i + 1 == (ksO t).length)) = true → Cz (twW (paW n) t last (i + 1) ++ r) := fun h => by
   rw [Bool.and_eq_true, beq_iff_eq] at h
   rw [tw_nil h.2, List.nil_append]
   exact hz h.1
  have h1 := (hF ((ksO t)[i]'(by omega)) (List.getElem_mem _) (last && (i + 1 == (ksO t).length)) _ 4 hz2 (by omega)).1 rfl hsp
  have h2 := ih (i := i + 1) (acc := acc ++ [(ksO t)[i]'(by omega)]) (by omega)
  rw [tw_cons (by omega), hkk, hg, List.append_assoc, List.cons_append]
  rw [List.drop_eq_getElem_cons (show i < (ksO t).length by omega)]
  rw [List.append_assoc, List.singleton_append] at h2
  exact rds_6w rfl h1 h2
theorem loop_18 {e n : Nat} {t : Tr} {last : Bool} {r : List TD} (hkk : (lbO t).k = 18) (hF : ∀ a ∈ ksO t, FF e n a) (hz : last = true → Cz r) (hs : Sp 2 r) (d : Nat) : ∀ {i : Nat} {acc : List Tr}, i + d = (ksO t).length → Rds e 4 acc (twW (paW n) t last i ++ r) (row 18 (acc ++ (ksO t).drop i)) r := by
 induction d with
 | zero =>
  intro i acc hi
  rw [tw_nil (by omega), List.drop_eq_nil_of_le (by omega), List.append_nil, List.nil_append]
  exact rds_4e (hs.o (by omega))
 | succ d ih =>
  intro i acc hi
  have hg : (ksO t).getD i t = (ksO t)[i]'(by omega) := by simp [List.getD, show i < (ksO t).length by omega]
  have hsp : Sp 3 (twW (paW n) t last (i + 1) ++ r) := by
   rcases Nat.eq_or_lt_of_le (show i + 1 ≤ (ksO t).length by omega) with h | h
   ·rw [tw_nil h, List.nil_append]
    exact hs.mono (by omega)
   ·rw [tw_cons h, hkk, List.append_assoc, List.cons_append]
    exact sp_w (.inr (.inr (.inl ⟨rfl, rfl⟩)))
  have hz2 : (last && (i + 1 == (ksO t).length)) = true → Cz (twW (paW n) t last (i + 1) ++ r) := fun h => by
   rw [Bool.and_eq_true, beq_iff_eq] at h
   rw [tw_nil h.2, List.nil_append]
   exact hz h.1
  have h1 := (hF ((ksO t)[i]'(by omega)) (List.getElem_mem _) (last && (i + 1 == (ksO t).length)) _ 3 hz2 (by omega)).2.1 rfl hsp
  have h2 := ih (i := i + 1) (acc := acc ++ [(ksO t)[i]'(by omega)]) (by omega)
  rw [tw_cons (by omega), hkk, hg, List.append_assoc, List.cons_append]
  rw [List.drop_eq_getElem_cons (show i < (ksO t).length by omega)]
  rw [List.append_assoc, List.singleton_append] at h2
  exact rds_4w rfl h1 h2
theorem ff_n {e : Nat} (n : Nat) : ∀ {t : Tr}, Fm n t → FF e n t := by
 induction n with
 | zero => exact fun h => h.elim
 | succ n ih =>
  intro t h
  rcases h with ⟨k, rfl, hk⟩ | ⟨k, a, b, rfl, hk, ha, hb⟩ | ⟨xs, a, rfl, hc, hv, ha⟩ | ⟨a, rfl, ha⟩ | ⟨k, ks, rfl, hk, hl, ha⟩ | ⟨k, a, b, rfl, hk, ha, hb⟩ | ⟨k, ns, a, rfl, hk, hne, hns, ha⟩
  ·refine ff_of (show 7 ≤ k ∧ k ≤ 22 by omega) fun last r _ _ => ?_
   obtain ⟨k1, k2, k3, k4⟩ := amo_78 hk
   rw [show brW (paW n) (nd (lk k) []) last = [wkT k] by rcases hk with rfl | rfl <;> rfl, show p4 (lbO (nd (lk k) [])).k = 4 by rcases hk with rfl | rfl <;> rfl]
   refine rp_4 fun _ => rds_7 k3 k4 ?_
   have := rds_8t (e := e) (ts := wkT k :: r) k2
   rw [show ((amo 7 2 (hd (wkT k :: r)) : Nat) : Int) = k from k1] at this
   exact this
  ·refine ff_of (show 7 ≤ k ∧ k ≤ 22 by omega) fun last r _ _ => ?_
   obtain ⟨k1, k2, k3, k4, k5⟩ := amo_96 hk
   have eB : brW (paW n) (nd (lk k) [a, b]) last = paW n a 6 false ++ wkT k :: paW n b 6 last := by
    obtain rfl | rfl | rfl | rfl | rfl | rfl : k = 9 ∨ k = 10 ∨ k = 11 ∨ k = 12 ∨ k = 13 ∨ k = 14 := by omega
    all_goals cases last <;> simp [brW, btW, lbO_nd, ksO_nd, lk, pIn]
   rw [eB, List.append_assoc, List.cons_append, show p4 (lbO (nd (lk k) [a, b])).k = 4 by
    obtain rfl | rfl | rfl | rfl | rfl | rfl : k = 9 ∨ k = 10 ∨ k = 11 ∨ k = 12 ∨ k = 13 ∨ k = 14 := by omega
    all_goals rfl]
   have hA := tt_n (e := e) n false ha
   have hB := tt_n (e := e) n last hb
   have hL := lead_app (r := wkT k :: (paW n b 6 last ++ r)) hA.l k3
   refine rp_4 fun hs => rds_7 hL.nt hL.qu ?_
   have hdv := hA.l.dv (wkT k :: (paW n b 6 last ++ r)) k3
   have := rds_8c (e := e) hL.tf hL.op hdv (hA.s (wkT k :: (paW n b 6 last ++ r)) a _ k4 (rds_10e (acc := [a]) k5)) k2 (hB.s r b r hs.m (rds_10e (acc := [b]) hs.s))
   rw [show ((amo 9 6 (hd (wkT k :: (paW n b 6 last ++ r))) : Nat) : Int) = k from k1] at this
   exact this
  ·refine ff_of (show 7 ≤ (15 : Int) ∧ (15 : Int) ≤ 22 by omega) fun last r _ _ => ?_
   have hA := tt_n (e := e) n last ha
   show Rp e 4 (nuT xs :: wkT 15 :: (paW n a 6 last ++ r)) _ r
   refine rp_4 fun hs => rds_7 (hc.2.1 16) (amo_none hc.2.1 _ _) ?_
   have := rds_8d (e := e) (k := nuT xs) (ts := wkT 15 :: (paW n a 6 last ++ r)) (amo_none hc.2.1 _ _) hc.2.2.1 rfl rfl hv (hA.s r a r hs.m (rds_10e (acc := [a]) hs.s))
   rw [show cl (nuT xs).num = xs from hc.1] at this
   exact this
  ·refine ff_of (show 7 ≤ (16 : Int) ∧ (16 : Int) ≤ 22 by omega) fun last r hz _ => ?_
   show Rp e 4 (wkT 16 :: (paW n a 4 last ++ r)) _ r
   exact rp_4 fun hs => rds_7n rfl ((ih ha last r 4 hz (Nat.le_refl 4)).1 rfl hs)
  ·refine ff_of (show 7 ≤ k ∧ k ≤ 22 by omega) fun last r hz _ => ?_
   obtain ⟨a, b, l, rfl⟩ : ∃ a b l, ks = a :: b :: l := by
    cases ks with
    | nil => simp at hl
    | cons a ks =>
     cases ks with
     | nil => simp at hl
     | cons b l => exact ⟨a, b, l, rfl⟩
   have hF : ∀ x ∈ ksO (nd (lk k) (a :: b :: l)), FF e n x := fun x hx => ih (ha x hx)
   rcases hk with rfl | rfl
   ·have eB : brW (paW n) (nd (lk 17) (a :: b :: l)) last = paW n a 4 false ++ twW (paW n) (nd (lk 17) (a :: b :: l)) last 1 := by
     have h1 := bt_tw (pt := paW n) (t := nd (lk 17) (a :: b :: l)) (last := last) (l.length + 1) (i := 1) (by omega) (by rw [ksO_nd]; simp; omega)
     have h2 : btW (paW n) (nd (lk 17) (a :: b :: l)) last 1 = paW n a 4 false := by cases last <;> simp [btW, lbO_nd, ksO_nd, lk, pIn]
     rw [h2] at h1
     rw [← h1]
     show btW _ _ _ (l.length + 1 + 1) = _
     rw [Nat.add_comm 1]
    rw [eB, List.append_assoc]
    show Rp e 3 _ _ _
    refine rp_3 fun hs => ?_
    have h1 := loop_17 (t := nd (lk 17) (a :: b :: l)) rfl hF hz hs (l.length + 1) (i := 1) (acc := [a]) (by rw [ksO_nd]; simp; omega)
    refine rds_5 ((hF a (by simp [ksO_nd]) false _ 4 (fun h => by cases h) (by omega)).1 rfl ?_) h1
    rw [tw_cons (by rw [ksO_nd]; simp), List.append_assoc, List.cons_append]
    exact sp_w (.inr (.inl ⟨rfl, rfl⟩))
   ·have eB : brW (paW n) (nd (lk 18) (a :: b :: l)) last = paW n a 3 false ++ twW (paW n) (nd (lk 18) (a :: b :: l)) last 1 := by
     have h1 := bt_tw (pt := paW n) (t := nd (lk 18) (a :: b :: l)) (last := last) (l.length + 1) (i := 1) (by omega) (by rw [ksO_nd]; simp; omega)
     have h2 : btW (paW n) (nd (lk 18) (a :: b :: l)) last 1 = paW n a 3 false := by cases last <;> simp [btW, lbO_nd, ksO_nd, lk, pIn]
     rw [h2] at h1
     rw [← h1]
     show btW _ _ _ (l.length + 1 + 1) = _
     rw [Nat.add_comm 1]
    rw [eB, List.append_assoc]
    show Rp e 2 _ _ _
    refine rp_2 fun hs => ?_
    have h1 := loop_18 (t := nd (lk 18) (a :: b :: l)) rfl hF hz hs (l.length + 1) (i := 1) (acc := [a]) (by rw [ksO_nd]; simp; omega)
    refine rds_3 ((hF a (by simp [ksO_nd]) false _ 3 (fun h => by cases h) (by omega)).2.1 rfl ?_) h1
    rw [tw_cons (by rw [ksO_nd]; simp), List.append_assoc, List.cons_append]
    exact sp_w (.inr (.inr (.inl ⟨rfl, rfl⟩)))
  ·refine ff_of (show 7 ≤ k ∧ k ≤ 22 by omega) fun last r hz _ => ?_
   rcases hk with rfl | rfl
   ·have eB : brW (paW n) (nd (lk 19) [a, b]) last = paW n a 2 false ++ wkT 19 :: paW n b 1 last := by
     cases last <;> simp [brW, btW, lbO_nd, ksO_nd, lk, pIn]
    rw [eB, List.append_assoc, List.cons_append]
    show Rp e 1 _ _ _
    exact rp_1 fun hs => rds_2w ((ih ha false _ 2 (fun h => by cases h) (by omega)).2.2.1 rfl (sp_w (.inr (.inr (.inr (.inl ⟨rfl, rfl⟩)))))) rfl ((ih hb last r 1 hz (by omega)).2.2.2.1 rfl hs)
   ·have eB : brW (paW n) (nd (lk 20) [a, b]) last = paW n a 0 false ++ wkT 20 :: paW n b 1 last := by
     cases last <;> simp [brW, btW, lbO_nd, ksO_nd, lk, pIn]
    rw [eB, List.append_assoc, List.cons_append]
    show Rp e 0 _ _ _
    exact rp_0 fun v q hs h2 => (ih ha false _ 0 (fun h => by cases h) (by omega)).2.2.2.2 rfl v q (sp_w (.inr (.inr (.inr (.inr ⟨rfl, rfl⟩))))) (rds_1w (acc := [a]) rfl ((ih hb last r 1 hz (by omega)).2.2.2.1 rfl hs) h2)
  ·refine ff_of (show 7 ≤ k ∧ k ≤ 22 by omega) fun last r hz hq => ?_
   obtain ⟨k1, k2, k3⟩ := amo_212 hk
   have hq' : qnt k = true := by rcases hk with rfl | rfl <;> rfl
   have hla := hq hq'
   have eB : brW (paW n) (nd ⟨k, ⟨#[]⟩, ns, false, []⟩ [a]) last = wkT k :: (ns.map naT ++ dtT :: paW n a 0 last) := by
    rcases hk with rfl | rfl <;> simp [brW, ahW, lbO_nd, ksO_nd, pIn, qnt]
   rw [eB, List.cons_append, List.append_assoc, List.cons_append, show p4 (lbO (nd ⟨k, ⟨#[]⟩, ns, false, []⟩ [a])).k = 4 by rcases hk with rfl | rfl <;> rfl]
   refine rp_4 fun hs => ?_
   have hm := nms_map ns (paW n a 0 last ++ r)
   have h0 := rp_whole (by omega) (ih ha last r 0 hz (by omega)) (hz hla)
   have := rds_7q (e := e) (ts := wkT k :: (ns.map naT ++ dtT :: (paW n a 0 last ++ r))) (t := a) (r := r) k3 k2 (by show (nms (ns.map naT ++ dtT :: (paW n a 0 last ++ r))).1 ≠ []; rw [hm]; exact hne) (by show hd (nms (ns.map naT ++ dtT :: (paW n a 0 last ++ r))).2 = dot; rw [hm]; rfl) (by show Rds e 0 [] (nms (ns.map naT ++ dtT :: (paW n a 0 last ++ r))).2.tail a r; rw [hm]; exact h0)
   rw [show ((amo 21 2 (hd (wkT k :: (ns.map naT ++ dtT :: (paW n a 0 last ++ r)))) : Nat) : Int) = k from k1, show (nms (wkT k :: (ns.map naT ++ dtT :: (paW n a 0 last ++ r))).tail).1 = ns from by rw [List.tail_cons, hm]] at this
   exact this
/-- WHAT IS PRINTED IS READ, word by word -/
theorem words_read {e n : Nat} {t : Tr} (h : Fm n t) : Rds e 0 [] (paW n t 0 true) t [] := by
 have := rp_whole (by omega) (ff_n (e := e) n h true [] 0 (fun _ => .inl rfl) (by omega)) (.inl rfl)
 rwa [List.append_nil] at this
end Sx
end Go.Proofs.YtgpaajolcpgeaaaGreatDoor

namespace Go.Proofs.YtgpaajolcpgeaaaGreatDoor
open Go.RowKit
namespace Sx

/-- trees whose words can be written (of so many levels) -/
def Wn : Nat → Tr → Prop
 | 0, _ => False
 | n + 1, t => (1 ≤ (lbO t).k ∧ (lbO t).k ≤ 22) ∧ Wt (lbO t) ∧ ((lbO t).k = 3 → (lbO t).nms = []) ∧ ((lbO t).k ≠ 1 → (lbO t).k ≠ 2 → (lbO t).k ≠ 7 → (lbO t).k ≠ 8 → ksO t ≠ []) ∧ ∀ u ∈ ksO t, Wn n u
theorem sc_bare {n : Nat} {t : Tr} (h : Wn (n + 1) t) (ih : ∀ u, Wn n u → ∀ pl l, Sc (parF n u pl l) (paW n u pl l)) (last : Bool) : Sc (bareD (parF n) t last) (brW (paW n) t last) := by
 obtain ⟨hk, hw, h3, hks, hu⟩ := h
 have hhd : ksO t ≠ [] → ∀ pl l, Sc (parF n ((ksO t).headD t) pl l) (paW n ((ksO t).headD t) pl l) := fun hne pl l => by
  obtain ⟨a, r, e⟩ := List.exists_cons_of_ne_nil hne
  rw [e]
  exact ih a (hu a (by rw [e]; simp)) pl l
 by_cases k1 : (lbO t).k = 1
 ·rw [show bareD (parF n) t last = numW (lbO t).s (lbO t).xs from funext fun p => by unfold bareD; rw [if_pos k1], show brW (paW n) t last = [nuT (lbO t).xs] by unfold brW; rw [if_pos k1]]
  exact sc_num hw (.inl k1)
 by_cases k2 : (lbO t).k = 2
 ·rw [show bareD (parF n) t last = wrd (naT (lbO t).nm).text.data.toList from funext fun p => by unfold bareD; rw [if_neg k1, if_pos k2]; rfl, show brW (paW n) t last = [naT (lbO t).nm] by unfold brW; rw [if_neg k1, if_pos k2]]
  exact sc_word (hw.na k2).1 (hw.na k2).2
 by_cases k7 : (lbO t).k = 7 ∨ (lbO t).k = 8
 ·rw [show bareD (parF n) t last = wrd (wkT (lbO t).k).text.data.toList from funext fun p => by unfold bareD; rw [if_neg k1, if_neg k2, if_pos k7]; rfl, show brW (paW n) t last = [wkT (lbO t).k] by unfold brW; rw [if_neg k1, if_neg k2, if_pos k7]]
  exact sc_word (tk_wk (by omega)) (wk_61 (by omega) (by omega))
 have hne := hks k1 k2 (fun e => k7 (.inl e)) (fun e => k7 (.inr e))
 by_cases k6 : (lbO t).k = 6 ∨ (lbO t).k = 15
 ·rw [show bareD (parF n) t last = fun p => ahD (parF n) t last (numW (lbO t).s (lbO t).xs p) from funext fun p => by unfold bareD; rw [if_neg k1, if_neg k2, if_neg k7, if_pos k6], show brW (paW n) t last = [nuT (lbO t).xs] ++ ahW (paW n) t last by unfold brW; rw [if_neg k1, if_neg k2, if_neg k7, if_pos k6]; rfl]
  exact sc_sd (sc_num hw (.inr k6)) (sc_ah (by omega) (by omega) h3 hw.ns (hhd hne)).sd
 by_cases k3 : (lbO t).k = 3 ∨ (lbO t).k = 16 ∨ (lbO t).k = 21 ∨ (lbO t).k = 22
 ·rw [show bareD (parF n) t last = ahD (parF n) t last from funext fun p => by unfold bareD; rw [if_neg k1, if_neg k2, if_neg k7, if_neg k6, if_pos k3], show brW (paW n) t last = ahW (paW n) t last by unfold brW; rw [if_neg k1, if_neg k2, if_neg k7, if_neg k6, if_pos k3]]
  exact sc_ah (by omega) (by omega) h3 hw.ns (hhd hne)
 rw [show bareD (parF n) t last = btD (parF n) t last (ksO t).length from funext fun p => by unfold bareD; rw [if_neg k1, if_neg k2, if_neg k7, if_neg k6, if_neg k3], show brW (paW n) t last = btW (paW n) t last (ksO t).length by unfold brW; rw [if_neg k1, if_neg k2, if_neg k7, if_neg k6, if_neg k3]]
 have hl := List.length_pos_iff.2 hne
 have h1 := sc_bt (pt := parF n) (pw := paW n) (t := t) (last := last) (by omega) (fun i hi pl l => by
  rw [show (ksO t).getD i t = (ksO t)[i]'hi by simp [List.getD, hi]]
  exact ih _ (hu _ (List.getElem_mem _)) pl l) ((ksO t).length - 1) (by omega)
 rwa [show (ksO t).length - 1 + 1 = (ksO t).length by omega] at h1
theorem sc_if {f : Ps → Ps} {ws : List TD} (h : Sc f ws) : Sc (fun p => if p.o then p else f p) ws := fun p hp => by
 by_cases ho : p.o = true
 ·change (if p.o then p else f p).o = false at hp
  rw [if_pos ho, ho] at hp
  cases hp
 ·change (if p.o then p else f p).o = false at hp
  rw [if_neg ho] at hp
  refine ⟨by simpa using ho, fun ds hd => ?_⟩
  show Out (if p.o then p else f p) _
  rw [if_neg ho]
  exact (h p hp).2 ds hd
theorem sc_pa (n : Nat) : ∀ t, Wn n t → ∀ pl last, Sc (parF n t pl last) (paW n t pl last) := by
 induction n with
 | zero => exact fun _ h => h.elim
 | succ n ih =>
  intro t h pl last
  have hb := sc_bare h ih
  by_cases hc : pOf (lbO t).k < pl ∨ (qnt (lbO t).k = true ∧ last = false)
  ·rw [show parF (n + 1) t pl last = fun p => if p.o then p else wrd cls'.data.toList (gl true (bareD (parF n) t true (gl true (wrd opn.data.toList p)))) from funext fun p => by
    show (if p.o then p else if pOf (lbO t).k < pl ∨ (qnt (lbO t).k = true ∧ last = false) then _ else _) = _
    rw [if_pos hc], show paW (n + 1) t pl last = opT :: (brW (paW n) t true ++ [clT]) from if_pos hc]
   exact sc_if (sc_tight tk_op (by decide) (sc_sd (hb true) (sd_close tk_cl (by decide) (by decide))))
  ·rw [show parF (n + 1) t pl last = fun p => if p.o then p else bareD (parF n) t last p from funext fun p => by
    show (if p.o then p else if pOf (lbO t).k < pl ∨ (qnt (lbO t).k = true ∧ last = false) then _ else _) = _
    rw [if_neg hc], show paW (n + 1) t pl last = brW (paW n) t last from if_neg hc]
   exact sc_if (hb last)
/-- WHAT IS PRINTED IS READ -/
theorem print_parse {f : Nat} {t : Tr} (hW : Wn f t) (hF : Fm f t) (hd : ¬ Dp 60 t) (ho : (parF f t 0 true ps0).o = false) (hl : (parF f t 0 true ps0).l.length ≤ 4096) : PaD ⟨(parF f t 0 true ps0).l.toArray⟩ (.inr t) := by
 obtain ⟨-, h1⟩ := sc_pa f t hW 0 true ps0 ho
 obtain ⟨-, -, h2⟩ := h1 [] ⟨true, pre_nil true, .inr rfl⟩
 generalize (parF f t 0 true ps0).l = l at *
 have hz : (⟨l.toArray⟩ : ByteArray).size = l.length := rfl
 obtain ⟨ts, h3, h4⟩ := h2 ⟨l.toArray⟩ (by omega) (fun i hi => rfl) (fun h => by omega) [] 0 0 (by
  rw [← hz]
  exact Lx.done ⟨Nat.le_refl _, Nat.le_refl _, fun j j1 j2 => by omega, fun h => by omega⟩)
 rw [List.append_nil] at h3
 rw [List.nil_append] at h4
 obtain ⟨n, hn⟩ := words_read (e := l.length) hF
 obtain ⟨q, hg, hq⟩ := gr_z (e' := (⟨l.toArray⟩ : ByteArray).size) (z := []) (.inl rfl) n hn h4
 rw [List.append_nil, List.append_nil, hq.nil] at hg
 refine ⟨ts, 0, 0, ?_, .inr ⟨rfl, n, hg, hd⟩⟩
 unfold Lxs
 rw [if_neg (by omega)]
 exact h3
end Sx
end Go.Proofs.YtgpaajolcpgeaaaGreatDoor

namespace Go.Proofs.YtgpaajolcpgeaaaGreatDoor
open Go.RowKit
namespace Sx

theorem wd_kinds (k : Nat) : (wd k).size = 0 ∨ cls (bt (wd k) 0) = 4 ∨ (cls (bt (wd k) 0) = 2 ∧ kd (wd k) = 3) := by
 unfold wd
 split
 all_goals first | exact .inl rfl | exact .inr (.inl (by decide)) | exact .inr (.inr ⟨by decide, by kernel_rfl⟩)
theorem pl_of {s : ByteArray} (h0 : 0 < s.size) (h : cls (bt s 0) = 1 ∨ (cls (bt s 0) = 2 ∧ kd s = 2)) : Pl s := by
 refine ⟨fun k e => ?_, fun e => ?_, fun e => ?_, fun e => ?_⟩
 ·have h2 := wd_kinds k
  rw [← e] at h2
  rcases h2 with h2 | h2 | ⟨h2, h3⟩ <;> rcases h with h | ⟨h, h4⟩ <;> omega
 all_goals
  have h2 : cls (bt s 0) = 4 := by rw [e]; decide
  rcases h with h | ⟨h, h4⟩ <;> omega
theorem b61 {s : ByteArray} (h : cls (bt s 0) = 1 ∨ cls (bt s 0) = 2) : bt s 0 ≠ 61 := fun e => by
 rw [e] at h
 revert h
 decide
theorem tk_name {s : ByteArray} (h : nmB s = true) : Tk (naT s) false ∧ bt s 0 ≠ 61 ∧ Pl s := by
 obtain ⟨h0, hc, hr, hk⟩ := nmB_iff.1 h
 have h1 := tk_row h0 hc hr.2.1 (by rw [hk]; decide)
 rw [hk] at h1
 exact ⟨h1, b61 (.inr hc), pl_of h0 (.inr ⟨hc, hk⟩)⟩
theorem cls_dig {b : Nat} (h : 48 ≤ b ∧ b ≤ 57) : cls (b : Int) = 1 := by
 unfold cls
 rw [if_neg (by omega), if_pos (by omega)]
theorem tk_num {xs : List Int} (hc : Canon xs) : Tk (nuT xs) false ∧ bt (nuT xs).text 0 ≠ 61 ∧ Cn xs := by
 have hv := val_nonneg hc.1
 have hx : (nuT xs).text = ⟨(Lib.decDigits (val xs).toNat).toArray⟩ := by
  show zText (val xs) = _
  unfold zText
  rw [if_neg (by omega)]
 have hok := dec_ok (val xs).toNat
 have hdr := dec_dr (val xs).toNat
 rw [← hx] at hok hdr
 have h1 : cls (bt (nuT xs).text 0) = 1 := cls_dig (hok.2.2 0 hok.1)
 generalize hX : (nuT xs).text = x at *
 have e : x.extract 0 x.size = x := by
  refine ba_ext (by rw [size_suffix]; omega) fun i hi => ?_
  rw [size_suffix] at hi
  rw [bt_suffix (by omega), Nat.zero_add]
 have hW : Wd x 0 ⟨1, x, val xs, 0⟩ := by
  refine ⟨rfl, by show 0 + x.size ≤ _; omega, ?_, .inl ⟨h1, ⟨by show 0 + x.size ≤ _; omega, fun j hj => ?_, fun h => ?_⟩, hok, rfl, ?_⟩⟩
  ·show x = x.extract 0 (0 + x.size)
   rw [Nat.zero_add, e]
  ·rw [Nat.zero_add]
   unfold inRow
   rw [cls_dig (hok.2.2 j hj)]
   decide
  ·change 0 + x.size < x.size at h
   omega
  ·show val xs = (dr x 0 x.size : Int)
   rw [hdr]
   omega
 have hT := tk_of hW hok.1 (by rw [h1]; decide)
 have hp : Pl x := pl_of hok.1 (.inl h1)
 refine ⟨?_, b61 (.inl h1), cl_of hc rfl, ?_⟩
 ·rw [← hX] at hT
  exact hT
 ·rw [← hX] at hp
  exact hp
theorem canon_tl {xs : List Int} (hL : Limbs xs) (h : tl xs xs.length = xs.length) : Canon xs := by
 refine ⟨hL, fun hp hz => ?_⟩
 obtain ⟨m, hm⟩ : ∃ m, xs.length = m + 1 := ⟨xs.length - 1, by omega⟩
 rw [hm] at h hz
 rw [Nat.add_sub_cancel] at hz
 have h2 : tl xs (m + 1) = if lz xs m = 0 then tl xs m else m + 1 := rfl
 rw [if_pos hz] at h2
 have := tl_le xs m
 omega
/-- a number that its shape lets be -/
theorem num_of {s : Shp} {sn : Bool} {xs : List Int} (hL : Limbs xs) (h : hnB s sn xs = true) : sn = false ∧ Canon xs ∧ (s.number = false → xs = []) := by
 unfold hnB StandsB at h
 simp only [Bool.and_eq_true, Bool.or_eq_true, decide_eq_true_eq, beq_iff_eq] at h
 obtain ⟨⟨h1, h2⟩, h3⟩ := h
 have hc := canon_tl hL h2
 have hv := val_nonneg hL
 have hz : cmpI (sg sn (val xs)) 0 = 0 → xs = [] := fun h => (canon_zero hc).1 (by
  unfold cmpI at h
  cases sn <;> simp only [sg, Bool.false_eq_true, if_true, if_false] at h <;> split at h <;> (try split at h) <;> omega)
 rcases h3 with h3 | ⟨h3, h4⟩
 ·have e := hz h3
  refine ⟨?_, hc, fun _ => e⟩
  rw [e] at h1
  cases sn with
  | false => rfl
  | true => exact absurd h1 (by decide)
 ·refine ⟨?_, hc, fun h5 => by rw [h5] at h4; cases h4⟩
  cases sn with
  | false => rfl
  | true =>
   unfold cmpI sg at h3
   simp only [if_true] at h3
   split at h3
   ·omega
   ·split at h3 <;> omega
end Sx
end Go.Proofs.YtgpaajolcpgeaaaGreatDoor

namespace Go.Proofs.YtgpaajolcpgeaaaGreatDoor
open Go.RowKit
namespace Sx

/-- a node that stands, with limbs for its number, and no divisor 0 -/
structure Nk (u : Tr) : Prop where
 eta : u = nd (lbO u) (ksO u)
 lim : Limbs (lbO u).xs
 st : stB (lbO u) (ksO u) = true
 zd : zdB u = false
def Nn (t : Tr) : Prop := ∀ n u, At4 n t u → Nk u
theorem Nn.kid {t k : Tr} (h : Nn t) (hk : k ∈ ksO t) : Nn k := fun n u hu => h (n + 1) u ⟨k, hk, hu⟩
theorem Nn.self {t : Tr} (h : Nn t) : Nk t := h 0 t rfl
/-- what a node's label and kids are -/
structure Lf (u : Tr) : Prop where
 kd : 1 ≤ (lbO u).k ∧ (lbO u).k ≤ 22
 s : (lbO u).s = false
 can : Canon (lbO u).xs
 nox : (shp (lbO u).k).number = false → (lbO u).xs = []
 nm : (shp (lbO u).k).name = true → nmB (lbO u).nm = true
 non : (shp (lbO u).k).name = false → (lbO u).nm = ⟨#[]⟩
 nms : ∀ s ∈ (lbO u).nms, nmB s = true
 som : (shp (lbO u).k).names = true → (lbO u).nms ≠ []
 nos : (shp (lbO u).k).names = false → (lbO u).nms = []
 kids : ∀ k ∈ ksO u, (shp (lbO k).k).is = (shp (lbO u).k).kids
 few : (shp (lbO u).k).few ≤ (ksO u).length ∧ ((ksO u).length : Int) ≤ (shp (lbO u).k).many
theorem Nk.lf {u : Tr} (h : Nk u) : Lf u := by
 have hs := h.st
 unfold stB at hs
 simp only [Bool.and_eq_true, bne_iff_ne, ne_eq] at hs
 obtain ⟨h0, h1, h2, h3, h4⟩ := hs
 obtain ⟨n1, n2, n3⟩ := num_of h.lim h1
 unfold hmB at h2
 unfold hsB at h3
 unfold hkB at h4
 simp only [Bool.and_eq_true, List.all_eq_true, decide_eq_true_eq, beq_iff_eq] at h3 h4
 refine ⟨kind_of h0, n1, n2, n3, fun e => ?_, fun e => ?_, h3.1, fun e he => ?_, fun e => ?_, h4.1, h4.2⟩
 ·rwa [e, if_pos rfl] at h2
 ·rw [e, if_neg (by decide)] at h2
  exact of_decide_eq_true h2
 ·rw [e, he] at h3
  exact absurd h3.2 (by decide)
 ·have := h3.2
  rw [e] at this
  have := of_decide_eq_false this.symm
  exact List.length_eq_zero_iff.1 (by omega)
theorem lab_eq {l : Lab} {k : Int} {nm : ByteArray} {ns : List ByteArray} {xs : List Int} (h1 : l.k = k) (h2 : l.nm = nm) (h3 : l.nms = ns) (h4 : l.s = false) (h5 : l.xs = xs) : l = ⟨k, nm, ns, false, xs⟩ := by
 obtain ⟨a, b, c, d, e⟩ := l
 cases h1; cases h2; cases h3; cases h4; cases h5
 rfl
theorem ks_0 {l : List Tr} (h : (l.length : Int) ≤ 0) : l = [] := List.length_eq_zero_iff.1 (by omega)
theorem ks_1 {l : List Tr} (h : (1 : Int) ≤ l.length ∧ (l.length : Int) ≤ 1) : ∃ a, l = [a] := List.length_eq_one_iff.1 (by omega)
theorem ks_2 {l : List Tr} (h : (2 : Int) ≤ l.length ∧ (l.length : Int) ≤ 2) : ∃ a b, l = [a, b] := by
 match l, h with
 | [a, b], _ => exact ⟨a, b, rfl⟩
 | [], h => simp at h
 | [a], h => simp at h
 | a :: b :: c :: l, h => simp at h; omega
theorem is_1 {k : Int} (hk : 1 ≤ k ∧ k ≤ 22) : (shp k).is = 1 → k ≤ 6 := by
 refine kinds (P := fun k => (shp k).is = 1 → k ≤ 6) hk ⟨?_, ?_, ?_, ?_, ?_, ?_, ?_, ?_, ?_, ?_, ?_, ?_, ?_, ?_, ?_, ?_, ?_, ?_, ?_, ?_, ?_, ?_⟩ <;> intro h
 all_goals first | omega | exact absurd h (by decide)
theorem is_2 {k : Int} (hk : 1 ≤ k ∧ k ≤ 22) : (shp k).is = 2 → 7 ≤ k := by
 refine kinds (P := fun k => (shp k).is = 2 → 7 ≤ k) hk ⟨?_, ?_, ?_, ?_, ?_, ?_, ?_, ?_, ?_, ?_, ?_, ?_, ?_, ?_, ?_, ?_, ?_, ?_, ?_, ?_, ?_, ?_⟩ <;> intro h
 all_goals first | omega | exact absurd h (by decide)
theorem nd_eq {t : Tr} (he : t = nd (lbO t) (ksO t)) {l : Lab} {ks : List Tr} (h1 : lbO t = l) (h2 : ksO t = ks) : t = nd l ks := by rw [h1, h2] at he; exact he
/-- a label without name, names and number -/
theorem lk_eq {t : Tr} (h : Lf t) {k : Int} (hk : (lbO t).k = k) (h1 : (shp k).number = false) (h2 : (shp k).name = false) (h3 : (shp k).names = false) : lbO t = lk k :=
 lab_eq hk (h.non (by rw [hk]; exact h2)) (h.nos (by rw [hk]; exact h3)) h.s (h.nox (by rw [hk]; exact h1))
theorem nu_eq {t : Tr} (h : Lf t) {k : Int} (hk : (lbO t).k = k) (h2 : (shp k).name = false) (h3 : (shp k).names = false) : lbO t = ⟨k, ⟨#[]⟩, [], false, (lbO t).xs⟩ :=
 lab_eq hk (h.non (by rw [hk]; exact h2)) (h.nos (by rw [hk]; exact h3)) h.s rfl
theorem good_n (n : Nat) : ∀ {t : Tr}, Nn t → ¬ Dp n t → Wn n t ∧ ((shp (lbO t).k).is = 1 → Tm n t) ∧ ((shp (lbO t).k).is = 2 → Fm n t) := by
 induction n with
 | zero => exact fun _ hd => absurd ⟨_, rfl⟩ hd
 | succ n ih =>
  intro t h hd
  have hl := h.self.lf
  have he := h.self.eta
  have hzd := h.self.zd
  have hK : ∀ k ∈ ksO t, Wn n k ∧ ((shp (lbO k).k).is = 1 → Tm n k) ∧ ((shp (lbO k).k).is = 2 → Fm n k) := fun k hk => ih (h.kid hk) fun ⟨u, hu⟩ => hd ⟨u, k, hk, hu⟩
  have hT : (shp (lbO t).k).kids = 1 → ∀ k ∈ ksO t, Tm n k := fun e k hk => (hK k hk).2.1 ((hl.kids k hk).trans e)
  have hF : (shp (lbO t).k).kids = 2 → ∀ k ∈ ksO t, Fm n k := fun e k hk => (hK k hk).2.2 ((hl.kids k hk).trans e)
  obtain ⟨k1, k2, k3⟩ := tk_num hl.can
  refine ⟨⟨hl.kd, ⟨fun _ => ⟨hl.s, k1, k2⟩, fun e => ?_, fun s hs => (tk_name (hl.nms s hs)).1⟩, fun e => hl.nos (by rw [e]; rfl), fun e1 e2 e7 e8 e => ?_, fun u hu => (hK u hu).1⟩, ?_, ?_⟩
  ·have h1 := tk_name (hl.nm (by rw [e]; rfl))
   exact ⟨h1.1, h1.2.1⟩
  ·have h1 := hl.few.1
   rw [e] at h1
   revert h1 e1 e2 e7 e8
   refine kinds (P := fun k => k ≠ 1 → k ≠ 2 → k ≠ 7 → k ≠ 8 → (shp k).few ≤ (([] : List Tr).length : Int) → False) hl.kd ?_
   refine ⟨?_, ?_, ?_, ?_, ?_, ?_, ?_, ?_, ?_, ?_, ?_, ?_, ?_, ?_, ?_, ?_, ?_, ?_, ?_, ?_, ?_, ?_⟩ <;> intro e1 e2 e7 e8 h1
   all_goals first | exact e1 rfl | exact e2 rfl | exact e7 rfl | exact e8 rfl | exact absurd h1 (by decide)
  ·intro hi
   have h6 := is_1 hl.kd hi
   have hl1 := hl.kd.1
   have hfw := hl.few
   have hcase : (lbO t).k = 1 ∨ (lbO t).k = 2 ∨ (lbO t).k = 3 ∨ (lbO t).k = 4 ∨ (lbO t).k = 5 ∨ (lbO t).k = 6 := by omega
   rcases hcase with hk | hk | hk | hk | hk | hk <;> rw [hk] at hfw hT
   ·exact .inl ⟨_, nd_eq he (nu_eq hl hk rfl rfl) (ks_0 hfw.2), k3⟩
   ·exact .inr (.inl ⟨_, nd_eq he (lab_eq hk rfl (hl.nos (by rw [hk]; rfl)) hl.s (hl.nox (by rw [hk]; rfl))) (ks_0 hfw.2), (tk_name (hl.nm (by rw [hk]; rfl))).2.2⟩)
   ·obtain ⟨a, e⟩ := ks_1 hfw
    exact .inr (.inr (.inl ⟨a, nd_eq he (lk_eq hl hk rfl rfl rfl) e, hT rfl a (by rw [e]; simp)⟩))
   ·obtain ⟨a, b, e⟩ := ks_2 hfw
    exact .inr (.inr (.inr (.inl ⟨4, a, b, nd_eq he (lk_eq hl hk rfl rfl rfl) e, .inl rfl, hT rfl a (by rw [e]; simp), hT rfl b (by rw [e]; simp)⟩)))
   ·obtain ⟨a, b, e⟩ := ks_2 hfw
    exact .inr (.inr (.inr (.inl ⟨5, a, b, nd_eq he (lk_eq hl hk rfl rfl rfl) e, .inr rfl, hT rfl a (by rw [e]; simp), hT rfl b (by rw [e]; simp)⟩)))
   ·obtain ⟨a, e⟩ := ks_1 hfw
    exact .inr (.inr (.inr (.inr ⟨_, a, nd_eq he (nu_eq hl hk rfl rfl) e, k3, hT rfl a (by rw [e]; simp)⟩)))
  ·intro hi
   have h6 := is_2 hl.kd hi
   have hl1 := hl.kd.2
   have hfw := hl.few
   have hcase : ((lbO t).k = 7 ∨ (lbO t).k = 8) ∨ ((lbO t).k = 9 ∨ (lbO t).k = 10 ∨ (lbO t).k = 11 ∨ (lbO t).k = 12 ∨ (lbO t).k = 13 ∨ (lbO t).k = 14) ∨ (lbO t).k = 15 ∨ (lbO t).k = 16 ∨ ((lbO t).k = 17 ∨ (lbO t).k = 18) ∨ ((lbO t).k = 19 ∨ (lbO t).k = 20) ∨ ((lbO t).k = 21 ∨ (lbO t).k = 22) := by omega
   rcases hcase with hk | hk | hk | hk | hk | hk | hk
   ·rcases hk with hk | hk <;> rw [hk] at hfw
    ·exact .inl ⟨7, nd_eq he (lk_eq hl hk rfl rfl rfl) (ks_0 hfw.2), .inl rfl⟩
    ·exact .inl ⟨8, nd_eq he (lk_eq hl hk rfl rfl rfl) (ks_0 hfw.2), .inr rfl⟩
   ·rcases hk with hk | hk | hk | hk | hk | hk <;> rw [hk] at hfw hT <;> obtain ⟨a, b, e⟩ := ks_2 hfw
    all_goals exact .inr (.inl ⟨_, a, b, nd_eq he (lk_eq hl hk rfl rfl rfl) e, by decide, hT rfl a (by rw [e]; simp), hT rfl b (by rw [e]; simp)⟩)
   ·rw [hk] at hfw hT
    obtain ⟨a, e⟩ := ks_1 hfw
    refine .inr (.inr (.inl ⟨_, a, nd_eq he (nu_eq hl hk rfl rfl) e, k3, fun hv => ?_, hT rfl a (by rw [e]; simp)⟩))
    unfold zdB nmZ at hzd
    rw [hk, hl.s, show sg false (val (lbO t).xs) = val (lbO t).xs from rfl, hv] at hzd
    exact absurd hzd (by decide)
   ·rw [hk] at hfw hF
    obtain ⟨a, e⟩ := ks_1 hfw
    exact .inr (.inr (.inr (.inl ⟨a, nd_eq he (lk_eq hl hk rfl rfl rfl) e, hF rfl a (by rw [e]; simp)⟩)))
   ·rcases hk with hk | hk <;> rw [hk] at hfw hF
    ·exact .inr (.inr (.inr (.inr (.inl ⟨17, _, nd_eq he (lk_eq hl hk rfl rfl rfl) rfl, .inl rfl, by have : (2 : Int) ≤ (ksO t).length := hfw.1; omega, hF rfl⟩))))
    ·exact .inr (.inr (.inr (.inr (.inl ⟨18, _, nd_eq he (lk_eq hl hk rfl rfl rfl) rfl, .inr rfl, by have : (2 : Int) ≤ (ksO t).length := hfw.1; omega, hF rfl⟩))))
   ·rcases hk with hk | hk <;> rw [hk] at hfw hF <;> obtain ⟨a, b, e⟩ := ks_2 hfw
    ·exact .inr (.inr (.inr (.inr (.inr (.inl ⟨19, a, b, nd_eq he (lk_eq hl hk rfl rfl rfl) e, .inl rfl, hF rfl a (by rw [e]; simp), hF rfl b (by rw [e]; simp)⟩)))))
    ·exact .inr (.inr (.inr (.inr (.inr (.inl ⟨20, a, b, nd_eq he (lk_eq hl hk rfl rfl rfl) e, .inr rfl, hF rfl a (by rw [e]; simp), hF rfl b (by rw [e]; simp)⟩)))))
   ·have hns : ∀ s ∈ (lbO t).nms, Pl s := fun s hs => (tk_name (hl.nms s hs)).2.2
    rcases hk with hk | hk <;> rw [hk] at hfw hF <;> obtain ⟨a, e⟩ := ks_1 hfw
    ·exact .inr (.inr (.inr (.inr (.inr (.inr ⟨21, _, a, nd_eq he (lab_eq hk (hl.non (by rw [hk]; rfl)) rfl hl.s (hl.nox (by rw [hk]; rfl))) e, .inl rfl, hl.som (by rw [hk]; rfl), hns, hF rfl a (by rw [e]; simp)⟩)))))
    ·exact .inr (.inr (.inr (.inr (.inr (.inr ⟨22, _, a, nd_eq he (lab_eq hk (hl.non (by rw [hk]; rfl)) rfl hl.s (hl.nox (by rw [hk]; rfl))) e, .inr rfl, hl.som (by rw [hk]; rfl), hns, hF rfl a (by rw [e]; simp)⟩)))))
end Sx
end Go.Proofs.YtgpaajolcpgeaaaGreatDoor

namespace Go.Proofs.YtgpaajolcpgeaaaGreatDoor
open Go.RowKit
namespace Sx
namespace Rq
/-- names, numbers, terms and formulas as they stand -/
def Pl (s : ByteArray) : Prop := nmB s = true
def Cn (xs : List Int) : Prop := Canon xs
def Tm : Nat → Tr → Prop
 | 0, _ => False
 | n + 1, t => (∃ xs, t = nd ⟨1, ⟨#[]⟩, [], false, xs⟩ [] ∧ Cn xs) ∨ (∃ nm, t = nd ⟨2, nm, [], false, []⟩ [] ∧ Pl nm) ∨ (∃ a, t = nd (lk 3) [a] ∧ Tm n a) ∨
  (∃ k a b, t = nd (lk k) [a, b] ∧ (k = 4 ∨ k = 5) ∧ Tm n a ∧ Tm n b) ∨ (∃ xs a, t = nd ⟨6, ⟨#[]⟩, [], false, xs⟩ [a] ∧ Cn xs ∧ Tm n a)
def Fm : Nat → Tr → Prop
 | 0, _ => False
 | n + 1, t => (∃ k, t = nd (lk k) [] ∧ (k = 7 ∨ k = 8)) ∨ (∃ k a b, t = nd (lk k) [a, b] ∧ (9 ≤ k ∧ k ≤ 14) ∧ Tm n a ∧ Tm n b) ∨
  (∃ xs a, t = nd ⟨15, ⟨#[]⟩, [], false, xs⟩ [a] ∧ Cn xs ∧ val xs ≠ 0 ∧ Tm n a) ∨ (∃ a, t = nd (lk 16) [a] ∧ Fm n a) ∨
  (∃ k ks, t = nd (lk k) ks ∧ (k = 17 ∨ k = 18) ∧ 2 ≤ ks.length ∧ ∀ a ∈ ks, Fm n a) ∨ (∃ k a b, t = nd (lk k) [a, b] ∧ (k = 19 ∨ k = 20) ∧ Fm n a ∧ Fm n b) ∨
  (∃ k ns a, t = nd ⟨k, ⟨#[]⟩, ns, false, []⟩ [a] ∧ (k = 21 ∨ k = 22) ∧ ns ≠ [] ∧ (∀ s ∈ ns, Pl s) ∧ Fm n a)

theorem tm_up (n : Nat) : ∀ {m : Nat} {t : Tr}, Tm n t → n ≤ m → Tm m t := by
 induction n with
 | zero => exact fun h _ => h.elim
 | succ n ih =>
  intro m t h hm
  obtain ⟨m, rfl⟩ : ∃ k, m = k + 1 := ⟨m - 1, by omega⟩
  have hm' : n ≤ m := by omega
  rcases h with h | h | ⟨a, e, ha⟩ | ⟨k, a, b, e, hk, ha, hb⟩ | ⟨xs, a, e, hc, ha⟩
  ·exact .inl h
  ·exact .inr (.inl h)
  ·exact .inr (.inr (.inl ⟨a, e, ih ha hm'⟩))
  ·exact .inr (.inr (.inr (.inl ⟨k, a, b, e, hk, ih ha hm', ih hb hm'⟩)))
  ·exact .inr (.inr (.inr (.inr ⟨xs, a, e, hc, ih ha hm'⟩)))
theorem fm_up (n : Nat) : ∀ {m : Nat} {t : Tr}, Fm n t → n ≤ m → Fm m t := by
 induction n with
 | zero => exact fun h _ => h.elim
 | succ n ih =>
  intro m t h hm
  obtain ⟨m, rfl⟩ : ∃ k, m = k + 1 := ⟨m - 1, by omega⟩
  have hm' : n ≤ m := by omega
  rcases h with h | ⟨k, a, b, e, hk, ha, hb⟩ | ⟨xs, a, e, hc, hv, ha⟩ | ⟨a, e, ha⟩ | ⟨k, ks, e, hk, hl, ha⟩ | ⟨k, a, b, e, hk, ha, hb⟩ | ⟨k, ns, a, e, hk, hne, hns, ha⟩
  ·exact .inl h
  ·exact .inr (.inl ⟨k, a, b, e, hk, tm_up n ha hm', tm_up n hb hm'⟩)
  ·exact .inr (.inr (.inl ⟨xs, a, e, hc, hv, tm_up n ha hm'⟩))
  ·exact .inr (.inr (.inr (.inl ⟨a, e, ih ha hm'⟩)))
  ·exact .inr (.inr (.inr (.inr (.inl ⟨k, ks, e, hk, hl, fun a h => ih (ha a h) hm'⟩))))
  ·exact .inr (.inr (.inr (.inr (.inr (.inl ⟨k, a, b, e, hk, ih ha hm', ih hb hm'⟩)))))
  ·exact .inr (.inr (.inr (.inr (.inr (.inr ⟨k, ns, a, e, hk, hne, hns, ih ha hm'⟩)))))
def Tx (t : Tr) : Prop := ∃ n, Tm n t
def Fx (t : Tr) : Prop := ∃ n, Fm n t
theorem fx_all {ks : List Tr} (h : ∀ a ∈ ks, Fx a) : ∃ n, ∀ a ∈ ks, Fm n a := by
 induction ks with
 | nil => exact ⟨0, fun a h => absurd h List.not_mem_nil⟩
 | cons x ks ih =>
  obtain ⟨n, hn⟩ := ih fun a ha => h a (by simp [ha])
  obtain ⟨m, hm⟩ := h x (by simp)
  refine ⟨max n m, fun a ha => ?_⟩
  rcases List.mem_cons.1 ha with rfl | ha
  ·exact fm_up m hm (Nat.le_max_right _ _)
  ·exact fm_up n (hn a ha) (Nat.le_max_left _ _)
theorem tx_two {a b : Tr} (ha : Tx a) (hb : Tx b) : ∃ n, Tm n a ∧ Tm n b := by
 obtain ⟨n, hn⟩ := ha
 obtain ⟨m, hm⟩ := hb
 exact ⟨max n m, tm_up n hn (Nat.le_max_left _ _), tm_up m hm (Nat.le_max_right _ _)⟩
theorem fx_two {a b : Tr} (ha : Fx a) (hb : Fx b) : ∃ n, Fm n a ∧ Fm n b := by
 obtain ⟨n, hn⟩ := ha
 obtain ⟨m, hm⟩ := hb
 exact ⟨max n m, fm_up n hn (Nat.le_max_left _ _), fm_up m hm (Nat.le_max_right _ _)⟩
theorem tx_num {xs : List Int} (h : Cn xs) : Tx (nd ⟨1, ⟨#[]⟩, [], false, xs⟩ []) := ⟨1, .inl ⟨xs, rfl, h⟩⟩
theorem tx_var {s : ByteArray} (h : Pl s) : Tx (nd ⟨2, s, [], false, []⟩ []) := ⟨1, .inr (.inl ⟨s, rfl, h⟩)⟩
theorem tx_neg {a : Tr} (h : Tx a) : Tx (nd (lk 3) [a]) := h.elim fun n hn => ⟨n + 1, .inr (.inr (.inl ⟨a, rfl, hn⟩))⟩
theorem tx_sum {k : Int} {a b : Tr} (hk : k = 4 ∨ k = 5) (ha : Tx a) (hb : Tx b) : Tx (nd (lk k) [a, b]) := (tx_two ha hb).elim fun n hn => ⟨n + 1, .inr (.inr (.inr (.inl ⟨k, a, b, rfl, hk, hn.1, hn.2⟩)))⟩
theorem tx_mul {xs : List Int} {a : Tr} (h : Cn xs) (ha : Tx a) : Tx (nd ⟨6, ⟨#[]⟩, [], false, xs⟩ [a]) := ha.elim fun n hn => ⟨n + 1, .inr (.inr (.inr (.inr ⟨xs, a, rfl, h, hn⟩)))⟩
theorem fx_tf {k : Int} (hk : k = 7 ∨ k = 8) : Fx (nd (lk k) []) := ⟨1, .inl ⟨k, rfl, hk⟩⟩
theorem fx_cmp {k : Int} {a b : Tr} (hk : 9 ≤ k ∧ k ≤ 14) (ha : Tx a) (hb : Tx b) : Fx (nd (lk k) [a, b]) := (tx_two ha hb).elim fun n hn => ⟨n + 1, .inr (.inl ⟨k, a, b, rfl, hk, hn.1, hn.2⟩)⟩
theorem fx_div {xs : List Int} {a : Tr} (h : Cn xs) (hv : val xs ≠ 0) (ha : Tx a) : Fx (nd ⟨15, ⟨#[]⟩, [], false, xs⟩ [a]) := ha.elim fun n hn => ⟨n + 1, .inr (.inr (.inl ⟨xs, a, rfl, h, hv, hn⟩))⟩
theorem fx_not {a : Tr} (h : Fx a) : Fx (nd (lk 16) [a]) := h.elim fun n hn => ⟨n + 1, .inr (.inr (.inr (.inl ⟨a, rfl, hn⟩)))⟩
theorem fx_row {k : Int} {acc : List Tr} (hk : k = 17 ∨ k = 18) (hne : acc ≠ []) (h : ∀ a ∈ acc, Fx a) : Fx (row k acc) := by
 match acc, hne with
 | [t], _ => exact h t (by simp)
 | t :: u :: l, _ =>
  obtain ⟨n, hn⟩ := fx_all h
  exact ⟨n + 1, .inr (.inr (.inr (.inr (.inl ⟨k, t :: u :: l, rfl, hk, by simp, hn⟩))))⟩
theorem fx_imp {k : Int} {a b : Tr} (hk : k = 19 ∨ k = 20) (ha : Fx a) (hb : Fx b) : Fx (nd (lk k) [a, b]) := (fx_two ha hb).elim fun n hn => ⟨n + 1, .inr (.inr (.inr (.inr (.inr (.inl ⟨k, a, b, rfl, hk, hn.1, hn.2⟩)))))⟩
theorem fx_qu {k : Int} {ns : List ByteArray} {a : Tr} (hk : k = 21 ∨ k = 22) (hne : ns ≠ []) (hns : ∀ s ∈ ns, Pl s) (ha : Fx a) : Fx (nd ⟨k, ⟨#[]⟩, ns, false, []⟩ [a]) := ha.elim fun n hn => ⟨n + 1, .inr (.inr (.inr (.inr (.inr (.inr ⟨k, ns, a, rfl, hk, hne, hns, hn⟩)))))⟩
theorem amo_or {a : Nat} {s : ByteArray} (h : amo a 2 s ≠ 0) : ((amo a 2 s : Nat) : Int) = a ∨ ((amo a 2 s : Nat) : Int) = a + 1 := by
 unfold amo at h ⊢
 split
 ·exact .inl rfl
 ·rename_i h1
  rw [if_neg h1] at h
  unfold amo at h ⊢
  split
  ·exact .inr (by omega)
  ·rename_i h2
   rw [if_neg h2] at h
   exact absurd rfl h
theorem amo_in (n : Nat) : ∀ {a : Nat} {s : ByteArray}, amo a n s ≠ 0 → a ≤ amo a n s ∧ amo a n s < a + n := by
 induction n with
 | zero => exact fun h => absurd rfl h
 | succ n ih =>
  intro a s h
  unfold amo at h ⊢
  split
  ·omega
  ·rename_i h1
   rw [if_neg h1] at h
   have := ih h
   omega
end Rq
end Sx
end Go.Proofs.YtgpaajolcpgeaaaGreatDoor

namespace Go.Proofs.YtgpaajolcpgeaaaGreatDoor
open Go.RowKit
namespace Sx
namespace Rq

/-- words whose numbers and names can be written -/
structure Tg (ts0 : List TD) : Prop where
 nu : ∀ t ∈ ts0, t.kind = 1 → Cn (cl t.num) ∧ (t.num ≠ 0 → val (cl t.num) ≠ 0)
 na : ∀ t ∈ ts0, t.kind = 2 → Pl t.text
theorem nms_pl {ts0 : List TD} (hg : Tg ts0) : ∀ {ts : List TD}, ts <:+ ts0 → ∀ s ∈ (nms ts).1, Pl s := by
 intro ts
 induction ts with
 | nil => exact fun _ s h => absurd h List.not_mem_nil
 | cons t ts ih =>
  intro hs s h
  unfold nms at h
  split at h
  ·rename_i hk
   rcases List.mem_cons.1 h with rfl | h
   ·exact hg.na t (hs.subset List.mem_cons_self) hk
   ·exact ih ((List.suffix_cons t ts).trans hs) s h
  ·exact absurd h List.not_mem_nil
def Gk (tag : Nat) (t : Tr) : Prop := (tag ≤ 8 → Fx t) ∧ (9 ≤ tag → Tx t)
theorem gk_f {tag : Nat} (h : tag ≤ 8) {t : Tr} (hf : Fx t) : Gk tag t := ⟨fun _ => hf, fun h2 => by omega⟩
theorem gk_t {tag : Nat} (h : 9 ≤ tag) {t : Tr} (hf : Tx t) : Gk tag t := ⟨fun h2 => by omega, fun _ => hf⟩
theorem gr_form {e : Nat} {ts0 : List TD} (hg : Tg ts0) (n : Nat) : ∀ {tag : Nat} {acc : List Tr} {ts : List TD} {t : Tr} {q : List TD}, Gr e n tag acc ts = some (.inr (t, q)) → ts <:+ ts0 → (∀ a ∈ acc, Gk tag a) → (tag = 1 ∨ tag = 10 → ∃ a, acc = [a]) → (tag = 4 ∨ tag = 6 → acc ≠ []) → Gk tag t ∧ q <:+ ts0 := by
 induction n with
 | zero => exact fun h => by cases h
 | succ n ih =>
  intro tag acc ts t q h hs ha h1a h4a
  have tl : ∀ {r : List TD}, r <:+ ts0 → r.tail <:+ ts0 := fun hr => (List.tail_suffix _).trans hr
  have ih0 : ∀ {tag : Nat} {ts : List TD} {t : Tr} {q : List TD}, tag ≠ 1 → tag ≠ 10 → tag ≠ 4 → tag ≠ 6 → Gr e n tag [] ts = some (.inr (t, q)) → ts <:+ ts0 → Gk tag t ∧ q <:+ ts0 := fun n1 n2 n3 n4 h hs => ih h hs (by simp) (fun h => by omega) (fun h => by omega)
  have one : ∀ {tag : Nat} {u : Tr}, Gk tag u → ∀ a ∈ [u], Gk tag a := fun hu a h => by rw [List.mem_singleton.1 h]; exact hu
  have more : ∀ {u : Tr}, Gk tag u → ∀ a ∈ acc ++ [u], Gk tag a := fun hu a h => by
   rcases List.mem_append.1 h with h | h
   ·exact ha a h
   ·rw [List.mem_singleton.1 h]; exact hu
  match tag with
  | 0 =>
   obtain ⟨u, r, h1, h2⟩ := th_inr h
   obtain ⟨p1, p2⟩ := ih0 (by omega) (by omega) (by omega) (by omega) h1 hs
   obtain ⟨p3, p4⟩ := ih h2 p2 (one (gk_f (by omega) (p1.1 (by omega)))) (fun _ => ⟨_, rfl⟩) (fun h => by omega)
   exact ⟨gk_f (by omega) (p3.1 (by omega)), p4⟩
  | 1 =>
   obtain ⟨a, rfl⟩ := h1a (.inl rfl)
   have hA := (ha a (by simp)).1 (by omega)
   simp only [Gr] at h
   split at h
   ·obtain ⟨u, r, h1, h2⟩ := th_inr h
    obtain ⟨p1, p2⟩ := ih0 (by omega) (by omega) (by omega) (by omega) h1 (tl hs)
    exact ih h2 p2 (one (gk_f (by omega) (fx_imp (.inr rfl) hA (p1.1 (by omega))))) (fun _ => ⟨_, rfl⟩) (fun h => by omega)
   ·cases h
    exact ⟨ha a (by simp), hs⟩
  | 2 =>
   obtain ⟨u, r, h1, h2⟩ := th_inr h
   obtain ⟨p1, p2⟩ := ih0 (by omega) (by omega) (by omega) (by omega) h1 hs
   (try dsimp only at h2)
   split at h2
   ·obtain ⟨v, s, h3, h4⟩ := th_inr h2
    obtain ⟨p3, p4⟩ := ih0 (by omega) (by omega) (by omega) (by omega) h3 (tl p2)
    cases h4
    exact ⟨gk_f (by omega) (fx_imp (.inl rfl) (p1.1 (by omega)) (p3.1 (by omega))), p4⟩
   ·cases h2
    exact ⟨gk_f (by omega) (p1.1 (by omega)), p2⟩
  | 3 =>
   obtain ⟨u, r, h1, h2⟩ := th_inr h
   obtain ⟨p1, p2⟩ := ih0 (by omega) (by omega) (by omega) (by omega) h1 hs
   obtain ⟨p3, p4⟩ := ih h2 p2 (one (gk_f (by omega) (p1.1 (by omega)))) (fun h => by omega) (fun _ => by simp)
   exact ⟨gk_f (by omega) (p3.1 (by omega)), p4⟩
  | 4 =>
   simp only [Gr] at h
   split at h
   ·obtain ⟨u, r, h1, h2⟩ := th_inr h
    obtain ⟨p1, p2⟩ := ih0 (by omega) (by omega) (by omega) (by omega) h1 (tl hs)
    exact ih h2 p2 (more (gk_f (by omega) (p1.1 (by omega)))) (fun h => by omega) (fun _ => by simp)
   ·cases h
    exact ⟨gk_f (by omega) (fx_row (.inr rfl) (h4a (.inl rfl)) fun a h => (ha a h).1 (by omega)), hs⟩
  | 5 =>
   obtain ⟨u, r, h1, h2⟩ := th_inr h
   obtain ⟨p1, p2⟩ := ih0 (by omega) (by omega) (by omega) (by omega) h1 hs
   obtain ⟨p3, p4⟩ := ih h2 p2 (one (gk_f (by omega) (p1.1 (by omega)))) (fun h => by omega) (fun _ => by simp)
   exact ⟨gk_f (by omega) (p3.1 (by omega)), p4⟩
  | 6 =>
   simp only [Gr] at h
   split at h
   ·obtain ⟨u, r, h1, h2⟩ := th_inr h
    obtain ⟨p1, p2⟩ := ih0 (by omega) (by omega) (by omega) (by omega) h1 (tl hs)
    exact ih h2 p2 (more (gk_f (by omega) (p1.1 (by omega)))) (fun h => by omega) (fun _ => by simp)
   ·cases h
    exact ⟨gk_f (by omega) (fx_row (.inl rfl) (h4a (.inr rfl)) fun a h => (ha a h).1 (by omega)), hs⟩
  | 7 =>
   simp only [Gr] at h
   split at h
   ·obtain ⟨u, r, h1, h2⟩ := th_inr h
    obtain ⟨p1, p2⟩ := ih0 (by omega) (by omega) (by omega) (by omega) h1 (tl hs)
    cases h2
    exact ⟨gk_f (by omega) (fx_not (p1.1 (by omega))), p2⟩
   ·split at h
    ·rename_i hq
     split at h
     ·cases h
     ·rename_i hn
      rw [not_or] at hn
      obtain ⟨u, r, h1, h2⟩ := th_inr h
      obtain ⟨p1, p2⟩ := ih0 (by omega) (by omega) (by omega) (by omega) h1 (tl ((nms_suf _).trans (tl hs)))
      cases h2
      exact ⟨gk_f (by omega) (fx_qu (amo_or hq) hn.1 (nms_pl hg (tl hs)) (p1.1 (by omega))), p2⟩
    ·obtain ⟨p1, p2⟩ := ih0 (by omega) (by omega) (by omega) (by omega) h hs
     exact ⟨gk_f (by omega) (p1.1 (by omega)), p2⟩
  | 8 =>
   rw [gr8] at h
   split at h
   ·rename_i hq
    cases h
    exact ⟨gk_f (by omega) (fx_tf (amo_or hq)), tl hs⟩
   ·split at h
    ·obtain ⟨u, r, h1, h2⟩ := th_inr h
     obtain ⟨p1, p2⟩ := ih0 (by omega) (by omega) (by omega) (by omega) h1 (tl hs)
     (try dsimp only at h2)
     split at h2
     ·cases h2
      exact ⟨gk_f (by omega) (p1.1 (by omega)), tl p2⟩
     ·cases h2
    ·split at h
     ·rename_i hk
      cases ts with
      | nil => cases h
      | cons x r =>
       dsimp only at h
       split at h
       ·cases h
       ·rename_i hz
        obtain ⟨u, r', h1, h2⟩ := th_inr h
        obtain ⟨p1, p2⟩ := ih0 (by omega) (by omega) (by omega) (by omega) h1 (tl (tl hs))
        have hx := hg.nu x (hs.subset List.mem_cons_self) hk.1
        cases h2
        exact ⟨gk_f (by omega) (fx_div hx.1 (hx.2 hz) (p1.2 (by omega))), p2⟩
     ·obtain ⟨u, r, h1, h2⟩ := th_inr h
      obtain ⟨p1, p2⟩ := ih0 (by omega) (by omega) (by omega) (by omega) h1 hs
      (try dsimp only at h2)
      split at h2
      ·cases h2
      ·rename_i hc
       obtain ⟨v, s, h3, h4⟩ := th_inr h2
       obtain ⟨p3, p4⟩ := ih0 (by omega) (by omega) (by omega) (by omega) h3 (tl p2)
       have hr := amo_in 6 hc
       cases h4
       exact ⟨gk_f (by omega) (fx_cmp (by omega) (p1.2 (by omega)) (p3.2 (by omega))), p4⟩
  | 9 =>
   obtain ⟨u, r, h1, h2⟩ := th_inr h
   obtain ⟨p1, p2⟩ := ih0 (by omega) (by omega) (by omega) (by omega) h1 hs
   obtain ⟨p3, p4⟩ := ih h2 p2 (one (gk_t (by omega) (p1.2 (by omega)))) (fun _ => ⟨_, rfl⟩) (fun h => by omega)
   exact ⟨gk_t (by omega) (p3.2 (by omega)), p4⟩
  | 10 =>
   obtain ⟨a, rfl⟩ := h1a (.inr rfl)
   have hA := (ha a (by simp)).2 (by omega)
   simp only [Gr] at h
   split at h
   ·rename_i hq
    obtain ⟨u, r, h1, h2⟩ := th_inr h
    obtain ⟨p1, p2⟩ := ih0 (by omega) (by omega) (by omega) (by omega) h1 (tl hs)
    exact ih h2 p2 (one (gk_t (by omega) (tx_sum (amo_or hq) hA (p1.2 (by omega))))) (fun _ => ⟨_, rfl⟩) (fun h => by omega)
   ·cases h
    exact ⟨ha a (by simp), hs⟩
  | k + 11 =>
   rw [gr11] at h
   split at h
   ·obtain ⟨u, r, h1, h2⟩ := th_inr h
    obtain ⟨p1, p2⟩ := ih0 (by omega) (by omega) (by omega) (by omega) h1 (tl hs)
    cases h2
    exact ⟨gk_t (by omega) (tx_neg (p1.2 (by omega))), p2⟩
   ·split at h
    ·obtain ⟨u, r, h1, h2⟩ := th_inr h
     obtain ⟨p1, p2⟩ := ih0 (by omega) (by omega) (by omega) (by omega) h1 (tl hs)
     (try dsimp only at h2)
     split at h2
     ·cases h2
      exact ⟨gk_t (by omega) (p1.2 (by omega)), tl p2⟩
     ·cases h2
    ·split at h
     ·rename_i hk
      cases ts with
      | nil => cases h
      | cons x r =>
       have hx := hg.nu x (hs.subset (List.mem_cons_self (a := x) (l := r))) hk
       dsimp only at h
       split at h
       ·obtain ⟨u, r', h1, h2⟩ := th_inr h
        obtain ⟨p1, p2⟩ := ih0 (by omega) (by omega) (by omega) (by omega) h1 (tl (tl hs))
        cases h2
        exact ⟨gk_t (by omega) (tx_mul hx.1 (p1.2 (by omega))), p2⟩
       ·cases h
        exact ⟨gk_t (by omega) (tx_num hx.1), tl hs⟩
     ·split at h
      ·rename_i hk
       cases ts with
       | nil => exact absurd hk (by decide)
       | cons x r =>
        cases h
        exact ⟨gk_t (by omega) (tx_var (hg.na x (hs.subset List.mem_cons_self) hk)), tl hs⟩
      ·cases h
end Rq
end Sx
end Go.Proofs.YtgpaajolcpgeaaaGreatDoor

namespace Go.Proofs.YtgpaajolcpgeaaaGreatDoor
open Go.RowKit
namespace Sx

theorem rt_sub {F : Nat → Prop} {w : World} (n : Nat) : ∀ {x : TC} {t u : Tr}, Rt F w x t → At4 n t u → ∃ y, Rt F w y u := by
 induction n with
 | zero =>
  intro x t u h hu
  rw [show u = t from hu]
  exact ⟨x, h⟩
 | succ n ih =>
  intro x t u h ⟨v, hv, hu⟩
  obtain ⟨l, ks, rfl⟩ := rt_of h
  obtain ⟨-, hk⟩ := rt_nd h
  rw [ksO_nd] at hv
  rcases hk.2 with h2 | ⟨b, off, -, -, -, h2⟩
  ·have h3 := hk.1
   have := List.length_pos_of_mem hv
   omega
  ·obtain ⟨i, hi, rfl⟩ := List.getElem_of_mem hv
   obtain ⟨y, -, hy⟩ := h2 i hi
   exact ih hy hu
theorem nn_of {F : Nat → Prop} {w : World} {x : TC} {t : Tr} (hx : Rt F w x t) (h : CkD t 0) : Nn t ∧ ¬ Dp 60 t ∧ (shp (lbO t).k).is = 2 := by
 unfold CkD at h
 by_cases hi : (shp (lbO t).k).is = 2
 ·rw [if_neg (fun h => h hi)] at h
  rcases h with ⟨-, h⟩ | ⟨h1, ⟨-, h⟩ | ⟨h2, ⟨-, h⟩ | ⟨h3, -⟩⟩⟩
  ·cases h
  ·cases h
  ·cases h
  ·refine ⟨fun n u hu => ?_, h3, hi⟩
   obtain ⟨y, hy⟩ := rt_sub n hx hu
   obtain ⟨l, ks, e⟩ := rt_of hy
   have h4 := h1 n u hu
   have h5 := h2 n u hu
   rw [e] at hy h4 h5 ⊢
   exact ⟨rfl, (rt_nd hy).1.rd.2.2.2.1, h4, h5⟩
 ·rw [if_pos hi] at h
  cases h
/-- WHAT IS PRINTED IS READ: of Print's text Parse makes the tree -/
theorem back {F : Nat → Prop} {w : World} {x : TC} {t : Tr} {f : Nat} {s : ByteArray} (hx : Rt F w x t) (hf : ¬ Dp f t) (h : PrA f t s 0) : PaD s (.inr t) ∧ s.size ≤ 4096 := by
 obtain ⟨c, hc, h⟩ := h
 by_cases h0 : c = 0
 ·subst h0
  rw [if_neg (fun h => h rfl)] at h
  by_cases ho : (parF f t 0 true ps0).o = true
  ·rw [if_pos ho] at h
   exact absurd h.2 (by decide)
  ·rw [if_neg ho] at h
   obtain ⟨rfl, -⟩ := h
   obtain ⟨hn, hd, hi⟩ := nn_of hx hc
   obtain ⟨g1, -, g3⟩ := good_n f hn hf
   have hl : (parF f t 0 true ps0).l.length ≤ 4096 := par_ok f t 0 true ps0 (fun _ => by show 0 ≤ 4096; omega) (by simpa using ho)
   exact ⟨print_parse g1 (g3 hi) hd (by simpa using ho) hl, hl⟩
 ·rw [if_pos h0] at h
  exact absurd h.2.symm h0
theorem ck_one {t : Tr} {c d : Int} (h : CkD t c) (h' : CkD t d) : c = d := by
 unfold CkD at h h'
 by_cases hi : (shp (lbO t).k).is ≠ 2
 ·rw [if_pos hi] at h h'
  rw [h, h']
 ·rw [if_neg hi] at h h'
  rcases h with ⟨⟨n, u, h1, h2⟩, rfl⟩ | ⟨h1, h⟩
  ·rcases h' with ⟨-, rfl⟩ | ⟨h3, -⟩
   ·rfl
   ·rw [h3 n u h1] at h2; cases h2
  ·rcases h' with ⟨⟨n, u, h3, h4⟩, -⟩ | ⟨-, h'⟩
   ·rw [h1 n u h3] at h4; cases h4
   ·rcases h with ⟨⟨n, u, h2, h3⟩, rfl⟩ | ⟨h2, h⟩
    ·rcases h' with ⟨-, rfl⟩ | ⟨h4, -⟩
     ·rfl
     ·rw [h4 n u h2] at h3; cases h3
    ·rcases h' with ⟨⟨n, u, h4, h5⟩, -⟩ | ⟨-, h'⟩
     ·rw [h2 n u h4] at h5; cases h5
     ·rcases h with ⟨h3, rfl⟩ | ⟨h3, rfl⟩ <;> rcases h' with ⟨h4, rfl⟩ | ⟨h4, rfl⟩
      ·rfl
      ·exact absurd h3 h4
      ·exact absurd h4 h3
      ·rfl
end Sx
end Go.Proofs.YtgpaajolcpgeaaaGreatDoor

namespace Go.Proofs.YtgpaajolcpgeaaaGreatDoor
open Go.RowKit
namespace Sx
namespace Rq

theorem canon_clF (f : Nat) : ∀ n, n ≤ f → Canon (clF f n) := by
 induction f with
 | zero => exact fun n _ => canon_nil
 | succ f ih =>
  intro n h
  unfold clF
  split
  ·exact canon_nil
  ·rename_i h0
   have h1 := ih (n / 4294967296) (by omega)
   refine ⟨fun z hz => ?_, fun _ => ?_⟩
   ·rcases List.mem_cons.1 hz with rfl | hz
    ·omega
    ·exact h1.1 z hz
   ·cases hc : clF f (n / 4294967296) with
    | nil =>
     have h2 := val_clF f (n / 4294967296) (by omega)
     rw [hc] at h2
     change (0 : Int) = _ at h2
     show ((n % 4294967296 : Nat) : Int) ≠ 0
     omega
    | cons y ys =>
     rw [hc] at h1
     have h2 := h1.2 (by simp)
     show lz (((n % 4294967296 : Nat) : Int) :: y :: ys) (ys.length + 1) ≠ 0
     exact h2
theorem canon_cl (n : Nat) : Canon (cl n) := canon_clF _ _ (Nat.le_refl _)
theorem lx_mem {s : ByteArray} : ∀ {ts : List TD} {a : Nat} {e : Int} {p : Nat}, Lx s a ts e p → ∀ t ∈ ts, ∃ k, k < s.size ∧ Wd s k t := by
 intro ts
 induction ts with
 | nil => exact fun _ t h => absurd h List.not_mem_nil
 | cons t ts ih =>
  intro a e p h u hu
  obtain ⟨k, -, hk, hw, hr⟩ := h.cons
  rcases List.mem_cons.1 hu with rfl | hu
  ·exact ⟨k, hk, hw⟩
  ·exact ih hr u hu
theorem kd_val (s : ByteArray) : kd s = 3 ∨ kd s = 0 ∨ kd s = 2 := by
 unfold kd
 split
 ·exact .inl rfl
 ·split
  ·exact .inr (.inl rfl)
  ·exact .inr (.inr rfl)
theorem wd_nu {s : ByteArray} {k : Nat} {t : TD} (h : Wd s k t) (hk : t.kind = 1) : Cn (cl t.num) ∧ (t.num ≠ 0 → val (cl t.num) ≠ 0) := by
 obtain ⟨-, -, -, ⟨-, -, -, -, h⟩ | ⟨-, -, h, -⟩ | ⟨-, -, -, -, h, -⟩⟩ := h
 ·rw [h]
  refine ⟨canon_cl _, fun h2 => ?_⟩
  rw [val_cl]
  exact h2
 ·have := kd_val t.text
  omega
 ·omega
theorem wd_na {s : ByteArray} {k : Nat} {t : TD} (hl : k < s.size) (h : Wd s k t) (hk : t.kind = 2) : Pl t.text := by
 have hp := wd_size h hl
 obtain ⟨-, h1, h2, ⟨-, -, -, h, -⟩ | ⟨hc, hr, h, -⟩ | ⟨-, -, -, -, h, -⟩⟩ := h
 ·omega
 ·have e : ∀ j, j < t.text.size → bt t.text j = bt s (k + j) := fun j hj => by
   rw [h2]
   exact bt_mid' h1 hj
  refine nmB_iff.2 ⟨hp, ?_, ⟨Nat.le_refl _, fun j hj => ?_, fun h => absurd h (Nat.lt_irrefl _)⟩, by rw [← h]; exact hk⟩
  ·rw [e 0 hp]
   exact hc
  ·rw [e j hj]
   exact hr.2.1 j hj
 ·omega
theorem tg_lx {s : ByteArray} {ts : List TD} {a : Nat} {e : Int} {p : Nat} (h : Lx s a ts e p) : Tg ts where
 nu t ht hk := by
  obtain ⟨k, -, hw⟩ := lx_mem h t ht
  exact wd_nu hw hk
 na t ht hk := by
  obtain ⟨k, hl, hw⟩ := lx_mem h t ht
  exact wd_na hl hw hk
/-- every node stands, and no divisor is 0 -/
def St (t : Tr) : Prop := ∀ m u, At4 m t u → stB (lbO u) (ksO u) = true ∧ zdB u = false
theorem st_nd {l : Lab} {ks : List Tr} (h1 : stB l ks = true) (h2 : zdB (nd l ks) = false) (h3 : ∀ k ∈ ks, St k) : St (nd l ks) := by
 intro m u hu
 cases m with
 | zero =>
  rw [show u = nd l ks from hu]
  exact ⟨h1, h2⟩
 | succ m =>
  obtain ⟨v, hv, hu⟩ := hu
  exact h3 v hv m u hu
theorem hn_nil (s : Shp) : hnB s false [] = true := by
 unfold hnB
 simp [StandsB, tl, sg, val, vl, cmpI]
theorem hn_num {s : Shp} (hs : s.number = true) {xs : List Int} (h : Cn xs) : hnB s false xs = true := by
 have hv := val_nonneg h.1
 have ht := tl_canon h rfl
 unfold hnB StandsB
 rw [ht, hs]
 simp only [sg, Bool.false_and, beq_self_eq_true, decide_true, Bool.true_and, Bool.and_true, Bool.false_eq_true, if_false]
 unfold cmpI
 split
 ·omega
 ·split <;> simp
theorem st_lk {k : Int} {ks : List Tr} (h1 : ((shp k).is != 0) = true) (h2 : (shp k).name = false) (h3 : (shp k).names = false) (h4 : hkB (shp k) ks = true) : stB (lk k) ks = true := by
 unfold stB
 show (((shp k).is != 0) && (hnB (shp k) false [] && (hmB (shp k) ⟨#[]⟩ && (hsB (shp k) [] && hkB (shp k) ks)))) = true
 rw [h1, hn_nil, h4]
 simp [hmB, hsB, h2, h3]
theorem zd_not {l : Lab} {ks : List Tr} (h : l.k ≠ 15) : zdB (nd l ks) = false := by
 unfold zdB
 rw [lbO_nd, decide_eq_false h]
 rfl
theorem hk_all {s : Shp} {ks : List Tr} (h : ∀ a ∈ ks, (shp (lbO a).k).is = s.kids) (h1 : s.few ≤ ks.length) (h2 : (ks.length : Int) ≤ s.many) : hkB s ks = true := by
 unfold hkB
 simp only [Bool.and_eq_true, List.all_eq_true, decide_eq_true_eq]
 exact ⟨h, h1, h2⟩
theorem one_of {P : Tr → Prop} {a : Tr} (h : P a) : ∀ x ∈ [a], P x := fun x hx => by rw [List.mem_singleton.1 hx]; exact h
theorem two_of {P : Tr → Prop} {a b : Tr} (h : P a) (h2 : P b) : ∀ x ∈ [a, b], P x := fun x hx => by
 simp only [List.mem_cons, List.not_mem_nil, or_false] at hx
 rcases hx with rfl | rfl
 ·exact h
 ·exact h2
theorem tm_st (n : Nat) : ∀ {t : Tr}, Tm n t → (shp (lbO t).k).is = 1 ∧ St t := by
 induction n with
 | zero => exact fun h => h.elim
 | succ n ih =>
  intro t h
  rcases h with ⟨xs, rfl, hc⟩ | ⟨nm, rfl, hp⟩ | ⟨a, rfl, ha⟩ | ⟨k, a, b, rfl, hk, ha, hb⟩ | ⟨xs, a, rfl, hc, ha⟩
  ·refine ⟨rfl, st_nd ?_ (zd_not (by show (1 : Int) ≠ 15; decide)) (fun k h => absurd h List.not_mem_nil)⟩
   unfold stB
   rw [show hnB (shp (Lab.mk 1 ⟨#[]⟩ [] false xs).k) (Lab.mk 1 ⟨#[]⟩ [] false xs).s (Lab.mk 1 ⟨#[]⟩ [] false xs).xs = true from hn_num rfl hc]
   rfl
  ·refine ⟨rfl, st_nd ?_ (zd_not (by show (2 : Int) ≠ 15; decide)) (fun k h => absurd h List.not_mem_nil)⟩
   unfold stB
   rw [show hnB (shp (Lab.mk 2 nm [] false []).k) (Lab.mk 2 nm [] false []).s (Lab.mk 2 nm [] false []).xs = true from hn_nil _, show hmB (shp (Lab.mk 2 nm [] false []).k) (Lab.mk 2 nm [] false []).nm = true from hp]
   rfl
  ·obtain ⟨a1, a2⟩ := ih ha
   exact ⟨rfl, st_nd (st_lk rfl rfl rfl (hk_all (one_of a1) (by simp [shp]) (by simp [shp]))) (zd_not (by decide)) (one_of a2)⟩
  ·obtain ⟨a1, a2⟩ := ih ha
   obtain ⟨b1, b2⟩ := ih hb
   rcases hk with rfl | rfl
   ·exact ⟨rfl, st_nd (st_lk rfl rfl rfl (hk_all (two_of a1 b1) (by simp [shp]) (by simp [shp]))) (zd_not (by decide)) (two_of a2 b2)⟩
   ·exact ⟨rfl, st_nd (st_lk rfl rfl rfl (hk_all (two_of a1 b1) (by simp [shp]) (by simp [shp]))) (zd_not (by decide)) (two_of a2 b2)⟩
  ·obtain ⟨a1, a2⟩ := ih ha
   refine ⟨rfl, st_nd ?_ (zd_not (by show (6 : Int) ≠ 15; decide)) (one_of a2)⟩
   unfold stB
   rw [show hnB (shp (Lab.mk 6 ⟨#[]⟩ [] false xs).k) (Lab.mk 6 ⟨#[]⟩ [] false xs).s (Lab.mk 6 ⟨#[]⟩ [] false xs).xs = true from hn_num rfl hc, show hkB (shp (Lab.mk 6 ⟨#[]⟩ [] false xs).k) [a] = true from hk_all (one_of a1) (by simp [shp]) (by simp [shp])]
   rfl
theorem fm_st (n : Nat) : ∀ {t : Tr}, Fm n t → (∀ i u, At4 i t u → (ksO u).length ≤ 1073741824) → (shp (lbO t).k).is = 2 ∧ St t := by
 induction n with
 | zero => exact fun h => h.elim
 | succ n ih =>
  intro t h hf
  have hkid : ∀ {k : Tr}, k ∈ ksO t → ∀ i u, At4 i k u → (ksO u).length ≤ 1073741824 := fun {k} hk i u hu => hf (i + 1) u ⟨k, hk, hu⟩
  rcases h with ⟨k, rfl, hk⟩ | ⟨k, a, b, rfl, hk, ha, hb⟩ | ⟨xs, a, rfl, hc, hv, ha⟩ | ⟨a, rfl, ha⟩ | ⟨k, ks, rfl, hk, hl, ha⟩ | ⟨k, a, b, rfl, hk, ha, hb⟩ | ⟨k, ns, a, rfl, hk, hne, hns, ha⟩
  ·rcases hk with rfl | rfl
   ·exact ⟨rfl, st_nd (st_lk rfl rfl rfl rfl) (zd_not (by decide)) (fun k h => absurd h List.not_mem_nil)⟩
   ·exact ⟨rfl, st_nd (st_lk rfl rfl rfl rfl) (zd_not (by decide)) (fun k h => absurd h List.not_mem_nil)⟩
  ·obtain ⟨a1, a2⟩ := tm_st n ha
   obtain ⟨b1, b2⟩ := tm_st n hb
   have hc : k = 9 ∨ k = 10 ∨ k = 11 ∨ k = 12 ∨ k = 13 ∨ k = 14 := by omega
   rcases hc with rfl | rfl | rfl | rfl | rfl | rfl
   all_goals exact ⟨rfl, st_nd (st_lk rfl rfl rfl (hk_all (two_of a1 b1) (by simp [shp]) (by simp [shp]))) (zd_not (by decide)) (two_of a2 b2)⟩
  ·obtain ⟨a1, a2⟩ := tm_st n ha
   refine ⟨rfl, st_nd ?_ ?_ (one_of a2)⟩
   ·unfold stB
    rw [show hnB (shp (Lab.mk 15 ⟨#[]⟩ [] false xs).k) (Lab.mk 15 ⟨#[]⟩ [] false xs).s (Lab.mk 15 ⟨#[]⟩ [] false xs).xs = true from hn_num rfl hc, show hkB (shp (Lab.mk 15 ⟨#[]⟩ [] false xs).k) [a] = true from hk_all (one_of a1) (by simp [shp]) (by simp [shp])]
    rfl
   ·unfold zdB
    rw [lbO_nd]
    have h2 := val_nonneg hc.1
    simp only [decide_true, Bool.true_and, decide_eq_false_iff_not]
    show ¬ cmpI (sg false (val xs)) 0 = 0
    unfold cmpI sg
    simp only [Bool.false_eq_true, if_false]
    split
    ·omega
    ·split <;> omega
  ·obtain ⟨a1, a2⟩ := ih ha (hkid (by simp [ksO_nd]))
   exact ⟨rfl, st_nd (st_lk rfl rfl rfl (hk_all (one_of a1) (by simp [shp]) (by simp [shp]))) (zd_not (by decide)) (one_of a2)⟩
  ·have hks : ∀ a ∈ ks, (shp (lbO a).k).is = 2 ∧ St a := fun a h => ih (ha a h) (hkid h)
   have hlen : (ks.length : Int) ≤ 9223372036854775807 := by
    have h6 := hf 0 _ rfl
    rw [ksO_nd] at h6
    omega
   rcases hk with rfl | rfl
   ·exact ⟨rfl, st_nd (st_lk rfl rfl rfl (hk_all (fun a h => (hks a h).1) (by show (2 : Int) ≤ _; omega) hlen)) (zd_not (by decide)) (fun a h => (hks a h).2)⟩
   ·exact ⟨rfl, st_nd (st_lk rfl rfl rfl (hk_all (fun a h => (hks a h).1) (by show (2 : Int) ≤ _; omega) hlen)) (zd_not (by decide)) (fun a h => (hks a h).2)⟩
  ·obtain ⟨a1, a2⟩ := ih ha (hkid (by simp [ksO_nd]))
   obtain ⟨b1, b2⟩ := ih hb (hkid (by simp [ksO_nd]))
   rcases hk with rfl | rfl
   all_goals exact ⟨rfl, st_nd (st_lk rfl rfl rfl (hk_all (two_of a1 b1) (by simp [shp]) (by simp [shp]))) (zd_not (by decide)) (two_of a2 b2)⟩
  ·obtain ⟨a1, a2⟩ := ih ha (hkid (by simp [ksO_nd]))
   have hq : ns.all nmB = true := List.all_eq_true.2 hns
   have hz : decide (0 < ns.length) = true := decide_eq_true (List.length_pos_iff.2 hne)
   have key : ∀ k : Int, (k = 21 ∨ k = 22) → stB (Lab.mk k ⟨#[]⟩ ns false []) [a] = true := by
    intro k hk
    unfold stB
    show (((shp k).is != 0) && (hnB (shp k) false [] && (hmB (shp k) ⟨#[]⟩ && (hsB (shp k) ns && hkB (shp k) [a])))) = true
    have hs : hsB (shp k) ns = ((shp k).names == true) := by unfold hsB; rw [hq, hz]; rfl
    rw [hn_nil, hs]
    rcases hk with rfl | rfl
    ·rw [show hkB (shp 21) [a] = true from hk_all (one_of a1) (by simp [shp]) (by simp [shp])]; rfl
    ·rw [show hkB (shp 22) [a] = true from hk_all (one_of a1) (by simp [shp]) (by simp [shp])]; rfl
   refine ⟨?_, st_nd (key k hk) (zd_not (by show k ≠ 15; omega)) (one_of a2)⟩
   rw [lbO_nd]
   rcases hk with rfl | rfl <;> rfl
/-- what Parse reads passes Check -/
theorem pa_ck {s : ByteArray} {t : Tr} (h : PaD s (.inr t)) (hF : Few4 4096 t) : CkD t 0 := by
 have hE := pa_ex h hF
 obtain ⟨ts, e, p, hx, ⟨-, h⟩ | ⟨rfl, n, h, hd⟩⟩ := h
 ·cases h
 ·have hx' : Lx s 0 ts 0 p := by
   unfold Lxs at hx
   split at hx
   ·exact absurd hx.2.1 (by decide)
   ·exact hx
  have hk := (gr_form (tg_lx hx') n h (List.suffix_refl _) (by simp) (fun h => by omega) (fun h => by omega)).1.1 (by omega)
  obtain ⟨m, hm⟩ := hk
  obtain ⟨h1, h2⟩ := fm_st m hm fun i u hu => (hE i u hu).1
  unfold CkD
  rw [if_neg (fun h => h h1)]
  exact .inr ⟨fun n u hu => (h2 n u hu).1, .inr ⟨fun n u hu => (h2 n u hu).2, .inr ⟨hd, rfl⟩⟩⟩
end Rq
end Sx
end Go.Proofs.YtgpaajolcpgeaaaGreatDoor

namespace Go.Proofs.YtgpaajolcpgeaaaGreatDoor
open Go.RowKit
namespace Sx
namespace Rq

theorem lb_any (ts : List TD) : LbOk (fun _ => True) ts := ⟨fun _ => trivial, fun _ _ _ => trivial, fun _ _ _ => trivial, fun _ _ => trivial⟩
theorem bad_le {e : Nat} {ts0 ts : List TD} (h : ∀ t ∈ ts0, t.at' ≤ e) (hs : ts <:+ ts0) : (bad e ts).2 ≤ e := by
 cases ts with
 | nil => exact Nat.le_refl _
 | cons x r => exact h x (hs.subset List.mem_cons_self)
theorem th_pos {x : Option Res} {f : Tr → List TD → Option Res} {c : Int × Nat} {P : Int × Nat → Prop} {Q : List TD → Prop} (h : th x f = some (.inl c)) (h1 : ∀ c, x = some (.inl c) → P c) (h0 : ∀ u r, x = some (.inr (u, r)) → Q r) (h2 : ∀ u r, Q r → f u r = some (.inl c) → P c) : P c := by
 rcases th_some h with ⟨c', e1, e2⟩ | ⟨u, r, e1, e2⟩
 ·cases e2
  exact h1 _ e1
 ·exact h2 u r (h0 u r e1) e2
theorem gr_pos {e : Nat} {ts0 : List TD} (hA : ∀ t ∈ ts0, t.at' ≤ e) (n : Nat) : ∀ {tag : Nat} {acc : List Tr} {ts : List TD} {c : Int × Nat}, Gr e n tag acc ts = some (.inl c) → ts <:+ ts0 → c.2 ≤ e := by
 induction n with
 | zero => exact fun h => by cases h
 | succ n ih0 =>
  intro tag acc ts c h hs
  have tl : ∀ {r : List TD}, r <:+ ts0 → r.tail <:+ ts0 := fun hr => (List.tail_suffix _).trans hr
  have ih : ∀ {tag : Nat} {acc : List Tr} {ts : List TD}, ts <:+ ts0 → ∀ c, Gr e n tag acc ts = some (.inl c) → c.2 ≤ e := fun hs c h => ih0 h hs
  have sf : ∀ {tag : Nat} {acc : List Tr} {ts : List TD}, ts <:+ ts0 → ∀ u r, Gr e n tag acc ts = some (.inr (u, r)) → r <:+ ts0 := fun hs u r h => (gr_all (lb_any ts0) n h hs (fun _ _ _ _ _ => trivial)).2
  match tag with
  | 0 => exact th_pos h (ih hs) (sf hs) fun _ _ hr => ih hr _
  | 1 =>
   simp only [Gr] at h
   split at h
   ·exact th_pos h (ih (tl hs)) (sf (tl hs)) fun _ _ hr => ih hr _
   ·cases h
  | 2 =>
   refine th_pos h (ih hs) (sf hs) fun u r hr h => ?_
   split at h
   ·exact th_pos h (ih (tl hr)) (sf (tl hr)) fun _ _ _ h => by cases h
   ·cases h
  | 3 => exact th_pos h (ih hs) (sf hs) fun _ _ hr => ih hr _
  | 4 =>
   simp only [Gr] at h
   split at h
   ·exact th_pos h (ih (tl hs)) (sf (tl hs)) fun _ _ hr => ih hr _
   ·cases h
  | 5 => exact th_pos h (ih hs) (sf hs) fun _ _ hr => ih hr _
  | 6 =>
   simp only [Gr] at h
   split at h
   ·exact th_pos h (ih (tl hs)) (sf (tl hs)) fun _ _ hr => ih hr _
   ·cases h
  | 7 =>
   simp only [Gr] at h
   split at h
   ·exact th_pos h (ih (tl hs)) (sf (tl hs)) fun _ _ _ h => by cases h
   ·split at h
    ·split at h
     ·cases h
      exact bad_le hA ((nms_suf _).trans (tl hs))
     ·exact th_pos h (ih (tl ((nms_suf _).trans (tl hs)))) (sf (tl ((nms_suf _).trans (tl hs)))) fun _ _ _ h => by cases h
    ·exact ih hs _ h
  | 8 =>
   rw [gr8] at h
   split at h
   ·cases h
   ·split at h
    ·refine th_pos h (ih (tl hs)) (sf (tl hs)) fun _ _ hr h => ?_
     split at h
     ·cases h
     ·cases h
      exact bad_le hA hr
    ·split at h
     ·cases ts with
      | nil => cases h
      | cons x r =>
       dsimp only at h
       split at h
       ·cases h
        exact hA x (hs.subset List.mem_cons_self)
       ·exact th_pos h (ih (tl (tl hs))) (sf (tl (tl hs))) fun _ _ _ h => by cases h
     ·refine th_pos h (ih hs) (sf hs) fun u r hr h => ?_
      split at h
      ·cases h
       exact bad_le hA hr
      ·exact th_pos h (ih (tl hr)) (sf (tl hr)) fun _ _ _ h => by cases h
  | 9 => exact th_pos h (ih hs) (sf hs) fun _ _ hr => ih hr _
  | 10 =>
   simp only [Gr] at h
   split at h
   ·exact th_pos h (ih (tl hs)) (sf (tl hs)) fun _ _ hr => ih hr _
   ·cases h
  | k + 11 =>
   rw [gr11] at h
   split at h
   ·exact th_pos h (ih (tl hs)) (sf (tl hs)) fun _ _ _ h => by cases h
   ·split at h
    ·refine th_pos h (ih (tl hs)) (sf (tl hs)) fun _ _ hr h => ?_
     split at h
     ·cases h
     ·cases h
      exact bad_le hA hr
    ·split at h
     ·cases ts with
      | nil => cases h
      | cons x r =>
       dsimp only at h
       split at h
       ·exact th_pos h (ih (tl (tl hs))) (sf (tl (tl hs))) fun _ _ _ h => by cases h
       ·cases h
     ·split at h
      ·cases h
      ·cases h
       exact bad_le hA hs
/-- an error lies within the text -/
theorem pa_pos {s : ByteArray} {c : Int} {d : Nat} (h : PaD s (.inl (c, d))) : d ≤ s.size := by
 obtain ⟨ts, e, p, hx, ⟨-, h⟩ | ⟨rfl, n, h⟩⟩ := h
 ·cases h
  unfold Lxs at hx
  split at hx
  ·rw [hx.2.2]
   exact Nat.zero_le _
  ·rcases lx_zero hx with ⟨-, h⟩ | ⟨-, h⟩ <;> omega
 ·have hx' : Lx s 0 ts 0 p := by
   unfold Lxs at hx
   split at hx
   ·exact absurd hx.2.1 (by decide)
   ·exact hx
  have hA : ∀ t ∈ ts, t.at' ≤ s.size := fun t ht => by
   obtain ⟨k, hk, hw⟩ := lx_mem hx' t ht
   have := hw.1
   omega
  rcases h with h | ⟨t, u, us, h, e⟩ | ⟨t, h, -, e⟩
  ·exact gr_pos hA n h (List.suffix_refl _)
  ·have h2 := bad_le hA (gr_all (lb_any ts) n h (List.suffix_refl _) (by simp)).2
   rw [← e] at h2
   exact h2
  ·cases e
   exact Nat.zero_le _
theorem pow_le (k : Nat) : ((10 ^ k : Nat) : Int) ≤ pw k := by
 induction k with
 | zero => decide
 | succ k ih =>
  have : pw (k + 1) = 4294967296 * pw k := rfl
  rw [this, Nat.pow_succ]
  omega
theorem cl_len {s : ByteArray} {k : Nat} {t : TD} (h : Wd s k t) (hs : s.size ≤ 4096) : (cl t.num).length ≤ 4096 := by
 obtain ⟨-, h1, -, ⟨-, -, hok, -, h⟩ | ⟨-, -, -, -, h⟩ | ⟨-, -, -, -, -, h⟩⟩ := h
 ·rw [h]
  have h2 := dr_lt t.text 0 t.text.size fun i hi => (hok.2.2 (0 + i) (by omega)).2
  have h3 := pow_le t.text.size
  have h4 := canon_len (canon_cl (dr t.text 0 t.text.size)) (k := t.text.size) (by rw [val_cl]; omega)
  omega
 ·rw [h]; decide
 ·rw [h]; decide
/-- labels of what is read are small -/
theorem pa_bd {s : ByteArray} {t : Tr} (h : PaD s (.inr t)) : Al Bd4 t := by
 obtain ⟨ts, e, p, hx, ⟨-, h⟩ | ⟨rfl, n, h, hd⟩⟩ := h
 ·cases h
 ·have hx' : Lx s 0 ts 0 p := by
   unfold Lxs at hx
   split at hx
   ·exact absurd hx.2.1 (by decide)
   ·exact hx
  have hp : p = 0 := lx_ok hx'
  subst hp
  obtain ⟨h0, h1, h2⟩ := lxs_short hx
  have hl := lb_nm h1 h2
  refine (gr_all (P := Bd4) ⟨fun k => ?_, fun us hs k => ?_, fun u hu k => ?_, fun u hu => ?_⟩ n h (List.suffix_refl _) (by simp)).1
  ·exact ⟨Nat.zero_le _, Nat.zero_le _, Nat.zero_le _, fun n h => by cases h⟩
  ·have h3 := hl.ns us hs k
   exact ⟨Nat.zero_le _, Nat.zero_le _, Nat.le_trans h3.2.1 (by decide), fun n hn => Nat.le_trans (h3.2.2 n hn) (by decide)⟩
  ·obtain ⟨k', -, hw⟩ := lx_mem hx' u hu
   exact ⟨Nat.le_trans (cl_len hw h0) (by decide), Nat.zero_le _, Nat.zero_le _, fun n h => by cases h⟩
  ·have h3 := hl.nm u hu
   exact ⟨Nat.zero_le _, Nat.le_trans h3.1 (by decide), Nat.zero_le _, fun n h => by cases h⟩
/-- what Print says of a tree that passes Check -/
theorem pr_ok {f : Nat} {t : Tr} {s : ByteArray} {e : Int} (h : PrA f t s e) (hc : CkD t 0) : e = 0 ∨ e = 40 := by
 obtain ⟨d, hd, h⟩ := h
 obtain rfl : 0 = d := ck_one hc hd
 rw [if_neg (fun h => h rfl)] at h
 split at h
 ·exact .inr h.2
 ·exact .inl h.2
theorem pr_one {f : Nat} {t : Tr} {s s' : ByteArray} {e e' : Int} (h : PrA f t s e) (h' : PrA f t s' e') : s = s' ∧ e = e' := by
 obtain ⟨c, hc, h⟩ := h
 obtain ⟨d, hd, h'⟩ := h'
 obtain rfl : c = d := ck_one hc hd
 by_cases h0 : c ≠ 0
 ·rw [if_pos h0] at h h'
  exact ⟨h.1.trans h'.1.symm, h.2.trans h'.2.symm⟩
 ·rw [if_neg h0] at h h'
  split at h
  ·rename_i h1
   rw [if_pos h1] at h'
   exact ⟨h.1.trans h'.1.symm, h.2.trans h'.2.symm⟩
  ·rename_i h1
   rw [if_neg h1] at h'
   exact ⟨h.1.trans h'.1.symm, h.2.trans h'.2.symm⟩
end Rq
end Sx
end Go.Proofs.YtgpaajolcpgeaaaGreatDoor
