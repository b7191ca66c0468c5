/-
 Several texts in one: OQ, OA3.
-/
import Derived.Test.YtkcklmipldcceaaGreatDoorSyj26
import Derived.Deep.DeepCutAuto
namespace Go.Proofs.YtkcklmipldcceaaGreatDoor
open Go.RowKit
namespace Sx

theorem mk_map2 (w : World) : (Instr.makeMap 83 none).run Tryz.prog w = .ok (.map (some w.heap.size)) (w.alloc (.map #[] 0)) := by
  simp [Instr.makeMap]
def SmR (w : World) (p : P2) (en : Ending) (w' : World) : Prop := Below w.heap.size w w' ∧ ∃ r : Bool, (r = true ↔ Sm p) ∧ en = .returned (.bool r)
set_option maxRecDepth 100000 in
set_option maxHeartbeats 6400000 in
theorem same_n {w : World} {x y : TC} {t u : Tr} {f : Nat} (hx : Rt An w x t) (hy : Rt An w y u) (hf : ¬ Dp f t) (hN : cntF f t ≤ 1073741824) (hB : Al Bd4 t) (hC : Al Bd4 u) :
    Calls Tryz.prog 22 #[x.val, y.val] w fun en w' => SmR w (t, u) en w' := by
  replace hx : Rt (fun b => b < w.heap.size) w x t := (rt_in hx).imp fun b hb => hb.2
  replace hy : Rt (fun b => b < w.heap.size) w y u := (rt_in hy).imp fun b hb => hb.2
  go_enter Tryz.func22, Tryz.ntmps22
  have b1 := below_alloc w (.cells #[.int .i64 x.k, .string x.nm, .slice x.na x.nn x.nc, .bool x.s, .slice x.a x.l x.c, .slice x.ka x.kn x.kc] 28)
  have b2 := below_alloc (w.alloc (.cells #[.int .i64 x.k, .string x.nm, .slice x.na x.nn x.nc, .bool x.s, .slice x.a x.l x.c, .slice x.ka x.kn x.kc] 28)) (.cells #[.int .i64 y.k, .string y.nm, .slice y.na y.nn y.nc, .bool y.s, .slice y.a y.l y.c, .slice y.ka y.kn y.kc] 28)
  have y1 := (vb_new w x).below b2
  have y2 := vb_new (w.alloc (.cells #[.int .i64 x.k, .string x.nm, .slice x.na x.nn x.nc, .bool x.s, .slice x.a x.l x.c, .slice x.ka x.kn x.kc] 28)) y
  have ez : (w.alloc (.cells #[.int .i64 x.k, .string x.nm, .slice x.na x.nn x.nc, .bool x.s, .slice x.a x.l x.c, .slice x.ka x.kn x.kc] 28)).heap.size = w.heap.size + 1 := by simp
  rw [ez] at y2
  have ez2 : ((w.alloc (.cells #[.int .i64 x.k, .string x.nm, .slice x.na x.nn x.nc, .bool x.s, .slice x.a x.l x.c, .slice x.ka x.kn x.kc] 28)).alloc (.cells #[.int .i64 y.k, .string y.nm, .slice y.na y.nn y.nc, .bool y.s, .slice y.a y.l y.c, .slice y.ka y.kn y.kc] 28)).heap.size = w.heap.size + 2 := by simp
  clear ez
  have hx2 := rt_below (rt_below hx b1) b2
  have hy2 := rt_below (rt_below hy b1) b2
  have hb := hide (grow_step b2 b1)
  clear hx hy b1 b2
  iterate 8 (first | go_skip | go_guarded | go_step | go_upon | go_simp)
  generalize (w.alloc (.cells #[.int .i64 x.k, .string x.nm, .slice x.na x.nn x.nc, .bool x.s, .slice x.a x.l x.c, .slice x.ka x.kn x.kc] 28)).alloc (.cells #[.int .i64 y.k, .string y.nm, .slice y.na y.nn y.nc, .bool y.s, .slice y.a y.l y.c, .slice y.ka y.kn y.kc] 28) = W at *
  generalize hz : w.heap.size = bt at *
  replace hz := hide hz
  have b3 := below_alloc W (.map #[] 0)
  have m3 := heap_alloc_new W (.map #[] 0)
  have z1 := y1.below b3
  have z2 := y2.below b3
  have hx3 := rt_below hx2 b3
  have hy3 := rt_below hy2 b3
  have hbW : bt ≤ W.heap.size := by omega
  have hb3 := hide (hb.out.trans (b3.mono hbW))
  have ez3 : (W.alloc (.map #[] 0)).heap.size = bt + 3 := by simp [ez2]
  rw [ez2] at m3
  have hmk := mk_map2 W
  rw [ez2] at hmk
  clear y1 y2 hx2 hy2 b3 hb
  iterate 12 (first | go_skip | go_guarded | go_step | go_upon | go_simp)
  generalize W.alloc (.map #[] 0) = W3 at *
  clear ez2 hbW hmk
  have b4 := below_alloc W3 (.cells #[.int .i64 x.k, .string x.nm, .slice x.na x.nn x.nc, .bool x.s, .slice x.a x.l x.c, .slice x.ka x.kn x.kc] 28)
  have n4 := heap_alloc_new W3 (.cells #[.int .i64 x.k, .string x.nm, .slice x.na x.nn x.nc, .bool x.s, .slice x.a x.l x.c, .slice x.ka x.kn x.kc] 28)
  have ez4 : (W3.alloc (.cells #[.int .i64 x.k, .string x.nm, .slice x.na x.nn x.nc, .bool x.s, .slice x.a x.l x.c, .slice x.ka x.kn x.kc] 28)).heap.size = bt + 4 := by simp [ez3]
  have u2 := z2.below b4
  have m4 := (b4.block (bt + 2) (by omega)).trans m3
  have hx4 := rt_below hx3 b4
  have hy4 := rt_below hy3 b4
  have hb4 := hide (hb3.out.trans (b4.mono (by omega)))
  rw [ez3] at n4
  have a0 := z1.c0
  have a1 := z1.c1
  have a2 := z1.c2
  have a3 := z1.c3
  have a4 := z1.c4
  have a5 := z1.c5
  clear z1 z2 m3 hx3 hy3 hb3 b4
  iterate 14 (first | go_skip | go_guarded | go_step | go_upon | go_simp)
  generalize W3.alloc (.cells #[.int .i64 x.k, .string x.nm, .slice x.na x.nn x.nc, .bool x.s, .slice x.a x.l x.c, .slice x.ka x.kn x.kc] 28) = W4 at *
  clear a0 a1 a2 a3 a4 a5 ez3
  have b5 := below_alloc W4 (.cells #[.int .i64 y.k, .string y.nm, .slice y.na y.nn y.nc, .bool y.s, .slice y.a y.l y.c, .slice y.ka y.kn y.kc] 28)
  have n5 := heap_alloc_new W4 (.cells #[.int .i64 y.k, .string y.nm, .slice y.na y.nn y.nc, .bool y.s, .slice y.a y.l y.c, .slice y.ka y.kn y.kc] 28)
  have ez5 : (W4.alloc (.cells #[.int .i64 y.k, .string y.nm, .slice y.na y.nn y.nc, .bool y.s, .slice y.a y.l y.c, .slice y.ka y.kn y.kc] 28)).heap.size = bt + 5 := by simp [ez4]
  have m5 := (b5.block (bt + 2) (by omega)).trans m4
  have l5 := (b5.block (bt + 3) (by omega)).trans n4
  have hx5 := rt_below hx4 b5
  have hy5 := rt_below hy4 b5
  have hb5 := hide (hb4.out.trans (b5.mono (by omega)))
  rw [ez4] at n5
  have a0 := u2.c0
  have a1 := u2.c1
  have a2 := u2.c2
  have a3 := u2.c3
  have a4 := u2.c4
  have a5 := u2.c5
  clear u2 m4 hx4 hy4 hb4 n4 b5
  iterate 10 (first | go_skip | go_guarded | go_step | go_upon | go_simp)
  generalize W4.alloc (.cells #[.int .i64 y.k, .string y.nm, .slice y.na y.nn y.nc, .bool y.s, .slice y.a y.l y.c, .slice y.ka y.kn y.kc] 28) = W5 at *
  clear a0 a1 a2 a3 a4 a5 ez4
  have b6 := below_alloc W5 (.cells #[.slice (some ⟨bt + 3, 0, none⟩) 1 1, .slice (some ⟨bt + 4, 0, none⟩) 1 1] 85)
  have n6 := heap_alloc_new W5 (.cells #[.slice (some ⟨bt + 3, 0, none⟩) 1 1, .slice (some ⟨bt + 4, 0, none⟩) 1 1] 85)
  have m6 := (b6.block (bt + 2) (by omega)).trans m5
  have k6 := (b6.block (bt + 3) (by omega)).trans l5
  have l6 := (b6.block (bt + 4) (by omega)).trans n5
  have hx6 := rt_below hx5 b6
  have hy6 := rt_below hy5 b6
  have hb6 := hide (hb5.out.trans (b6.mono (by omega)))
  have ez6 : (W5.alloc (.cells #[.slice (some ⟨bt + 3, 0, none⟩) 1 1, .slice (some ⟨bt + 4, 0, none⟩) 1 1] 85)).heap.size = bt + 6 := by simp [ez5]
  rw [ez5] at n6
  clear m5 l5 n5 hx5 hy5 hb5 b6
  go_wp2_with fail
  have hs6 := hide (sm_first hx6 hy6 hf hB hC hb6.out k6 l6 m6 n6)
  generalize W5.alloc (.cells #[.slice (some ⟨bt + 3, 0, none⟩) 1 1, .slice (some ⟨bt + 4, 0, none⟩) 1 1] 85) = W6 at *
  clear n6 m6 k6 l6 hx6 hy6 hb6 ez5 ez6 hf hB hC
  generalize hNN : cntF f t = N at *
  go_loopg [6] (1 + 2 * N) (fun k v wr => ∃ (vis : List P2) (LL : List (List P2)) (E : List (Value × Value)) (q : List Sl2), k ≤ 1 + 2 * N ∧ LL.length + 2 * cnL f (LL.flatten.map Prod.fst) ≤ k ∧ Hid (SmS f N bt w (t, u) vis LL [] E q v wr))
  case atStart =>
    refine ⟨_, _, _, _, Nat.le_refl _, ?_, hs6⟩
    simp [cnL, hNN]
  case round =>
    clear hs6 hNN
    obtain ⟨vis, LL, E, q, hgk, hm, hs⟩ := hrel
    obtain ⟨-, a, c, rfl, hrow⟩ := own_pairs hs.out.m.own
    have hql : q.length = LL.length := hs.out.m.pr.1
    match hn : q.length with
    | 0 =>
      rw [hn] at hql
      obtain rfl : LL = [] := List.length_eq_zero_iff.1 hql.symm
      have hfin : Hid (SmR w (t, u) (.returned (.bool true)) wr) := hide ⟨hz.out.symm ▸ hs.out.bl, true, ⟨fun _ => hs.out.d.all, fun _ => rfl⟩, rfl⟩
      clear hs hql hrow hm
      go_wp2
      refine bodyPost_ret (results_tmp rfl _ _ _) rfl ?_
      exact hfin.out
    | n + 1 =>
      obtain ⟨q', s, rfl, hq'⟩ := snoc_of hn
      obtain ⟨LL', L, rfl, hL'⟩ := snoc_of (hql.symm.trans hn)
      obtain ⟨g, rfl, hg, hub, hob, hcap, hc⟩ := hrow.resolve_left (by omega)
      obtain ⟨⟨ka, kn, kc⟩, ⟨kb, kn2, kc2⟩⟩ := s
      have ct : ∀ j, j < 2 → wr.cell? ⟨g, n * 2 + j, none⟩ = (Sl2.enc ⟨⟨ka, kn, kc⟩, ⟨kb, kn2, kc2⟩⟩)[j]? := fun j hj => by
        have := hc n (by rw [List.length_append, hq']; simp) j hj
        rw [Nat.zero_add] at this
        rw [this]
        congr 1
        rw [List.getElem_append_right (by omega)]
        simp [hq']
      have ct0 : wr.cell? ⟨g, n * 2, none⟩ = some (.slice ka kn kc) := ct 0 (by decide)
      have ct1 : wr.cell? ⟨g, n * 2 + 1, none⟩ = some (.slice kb kn2 kc2) := ct 1 (by decide)
      rw [hn] at hcap
      have hso := hs.out
      rw [hn] at hso
      obtain ⟨hs1, hkp⟩ := hso.pop hq'
      have hLn : L.length = kn := by have := hkp.1.1; rw [List.length_map] at this; exact this
      have hLn2 : L.length = kn2 := by have := hkp.2.1; rw [List.length_map] at this; exact this
      obtain rfl : kn = kn2 := hLn.symm.trans hLn2
      rw [List.length_append, List.length_singleton, List.flatten_append, List.map_append, cnL_append] at hm
      simp only [List.flatten_cons, List.flatten_nil, List.append_nil] at hm
      have hob1 : Hid ((Value.slice (some ⟨g, 0, none⟩) n c).ownBlock = some g) := hide hob
      have hgw : g < wr.heap.size := hub.lt
      have hnN : n ≤ 1 + 2 * N := by omega
      have hLN : kn ≤ cnL f (L.map Prod.fst) := by
        have := len_le_cnL (n := f) (l := L.map Prod.fst) fun z hz => by
          obtain ⟨r, hr, rfl⟩ := List.mem_map.1 hz
          exact hs1.d.dep r (.inr hr)
        rw [List.length_map, hLn] at this
        exact this
      have h1 : IntKind.i64.wrap (((n + 1 : Nat) : Int) - 1) = (n : Int) := by
        rw [IntKind.wrap_i64]
        omega
      have hgt0 : decide ((0 : Int) < ((n + 1 : Nat) : Int)) = true := by
        rw [decide_eq_true_eq]
        omega
      have hi1 : (n : Int) < ((n + 1 : Nat) : Int) := by omega
      have hi2 : (n : Int) ≤ (c : Int) := by omega
      have b1 := below_alloc wr (.cells #[.slice ka kn kc, .slice kb kn kc2] 85)
      have n1 := heap_alloc_new wr (.cells #[.slice ka kn kc, .slice kb kn kc2] 85)
      have hs2 := hide (hs1.below b1)
      have hkp2 := hide (hkp.kf (Kf.of_below b1))
      have d0 := cell_of_row _ wr.heap.size 0 _ _ (0, 0) n1
      replace hLn := hide hLn
      clear hLn2
      replace n1 := hide n1
      clear hs hrow hc hn hq' hql hL' ct hub hob hso hs1 hkp b1 hg
      go_wp2_with fail
      clear ct0 ct1 h1 hgt0 hi1 hi2 d0
      obtain ⟨w1, hw1⟩ : ∃ w1, wr.alloc (.cells #[.slice ka kn kc, .slice kb kn kc2] 85) = w1 := ⟨_, rfl⟩
      have hb8 : wr.heap.size < w1.heap.size := by rw [← hw1]; simp
      rw [hw1] at hs2 hkp2 n1 ⊢
      clear hw1
      generalize wr.heap.size = b8 at *
      go_loopw [6, 38] (fun v i wr => ∃ (j : Nat) (vis : List P2) (LL : List (List P2)) (E : List (Value × Value)) (q : List Sl2), j ≤ kn ∧ i = .int .i64 j ∧ LL.length + 2 * cnL f (LL.flatten.map Prod.fst) + 2 * cnL f ((L.drop j).map Prod.fst) + j ≤ LL'.length + 2 * (cnL f (LL'.flatten.map Prod.fst) + cnL f (L.map Prod.fst)) ∧ v.ownBlock ≠ some b8 ∧ Hid (SmS f N bt w (t, u) vis LL (L.drop j) E q v wr) ∧ Hid (KP (SmF bt) wr ⟨⟨ka, kn, kc⟩, ⟨kb, kn, kc2⟩⟩ L) ∧ Hid (wr.heap[b8]? = some (.cells #[.slice ka kn kc, .slice kb kn kc2] 85 (0, 0)))) (fun _ i _ => kn - (intOf i).toNat)
      case atStart =>
        refine ⟨0, _, _, _, _, Nat.zero_le _, rfl, ?_, ?_, hs2, hkp2, n1⟩
        · rw [List.drop_zero]; omega
        · rw [hob1.out]; intro e; have := Option.some.inj e; omega
      case round =>
        clear hs2 hkp2 n1 hob1
        obtain ⟨j, vis2, LL2, E2, q2, hj, rfl, hm2, hv8, hs, hkp, n1⟩ := hrel
        by_cases hjn : j < kn
        · have hjL : j < L.length := by rw [hLn.out]; exact hjn
          obtain ⟨r0, hr0⟩ : ∃ r0, L[j] = r0 := ⟨_, rfl⟩
          have hdr : L.drop j = r0 :: L.drop (j + 1) := by rw [List.drop_eq_getElem_cons hjL, hr0]
          rw [hdr] at hs hm2
          obtain ⟨ba, offa, rfl, hFa, hUa, hca⟩ := hkp.out.1.2.resolve_left (show ¬ kn = 0 by omega)
          obtain ⟨bb, offb, rfl, hFb, hUb, hcb⟩ := hkp.out.2.2.resolve_left (show ¬ kn = 0 by omega)
          obtain ⟨X, hcx, hX⟩ := hca j (by rw [List.length_map]; exact hjL)
          obtain ⟨Y, hcy, hY⟩ := hcb j (by rw [List.length_map]; exact hjL)
          rw [List.getElem_map, hr0] at hX hY
          have hlt : decide ((j : Int) < (kn : Int)) = true := by
            rw [decide_eq_true_eq]
            omega
          have hi2 : (j : Int) < (kn : Int) := by omega
          obtain ⟨S, hSd⟩ : ∃ S : World → Prop, S = fun W => (W.cell? ⟨b8, 0, none⟩ = some (.slice (some ⟨ba, offa, none⟩) kn kc) ∧ W.cell? ⟨b8, 1, none⟩ = some (.slice (some ⟨bb, offb, none⟩) kn kc2)) ∧ (W.cell? ⟨ba, offa + j * 6, none⟩ = some (.int .i64 X.k) ∧ W.cell? ⟨ba, offa + j * 6 + 1, none⟩ = some (.string X.nm) ∧ W.cell? ⟨ba, offa + j * 6 + 2, none⟩ = some (.slice X.na X.nn X.nc) ∧ W.cell? ⟨ba, offa + j * 6 + 3, none⟩ = some (.bool X.s) ∧ W.cell? ⟨ba, offa + j * 6 + 4, none⟩ = some (.slice X.a X.l X.c) ∧ W.cell? ⟨ba, offa + j * 6 + 5, none⟩ = some (.slice X.ka X.kn X.kc)) ∧ (W.cell? ⟨bb, offb + j * 6, none⟩ = some (.int .i64 Y.k) ∧ W.cell? ⟨bb, offb + j * 6 + 1, none⟩ = some (.string Y.nm) ∧ W.cell? ⟨bb, offb + j * 6 + 2, none⟩ = some (.slice Y.na Y.nn Y.nc) ∧ W.cell? ⟨bb, offb + j * 6 + 3, none⟩ = some (.bool Y.s) ∧ W.cell? ⟨bb, offb + j * 6 + 4, none⟩ = some (.slice Y.a Y.l Y.c) ∧ W.cell? ⟨bb, offb + j * 6 + 5, none⟩ = some (.slice Y.ka Y.kn Y.kc)) := ⟨_, rfl⟩
          have hS : ∀ W, Below wr.heap.size wr W → S W := fun W k => by
            rw [hSd]
            have e8 : ∀ i, W.cell? ⟨b8, i, none⟩ = wr.cell? ⟨b8, i, none⟩ := fun i => World.cell?_of_block (a := ⟨b8, i, none⟩) (k.block b8 (lt_of_block n1.out))
            have ea : ∀ i, W.cell? ⟨ba, i, none⟩ = wr.cell? ⟨ba, i, none⟩ := fun i => World.cell?_of_block (a := ⟨ba, i, none⟩) (k.block ba hUa.lt)
            have eb : ∀ i, W.cell? ⟨bb, i, none⟩ = wr.cell? ⟨bb, i, none⟩ := fun i => World.cell?_of_block (a := ⟨bb, i, none⟩) (k.block bb hUb.lt)
            refine ⟨⟨?_, ?_⟩, ⟨?_, ?_, ?_, ?_, ?_, ?_⟩, ?_, ?_, ?_, ?_, ?_, ?_⟩
            · rw [e8]; exact cell_of_row wr b8 0 _ _ (0, 0) n1.out
            · rw [e8]; exact cell_of_row wr b8 1 _ _ (0, 0) n1.out
            · rw [ea]; exact hcx 0 (by decide)
            · rw [ea]; exact hcx 1 (by decide)
            · rw [ea]; exact hcx 2 (by decide)
            · rw [ea]; exact hcx 3 (by decide)
            · rw [ea]; exact hcx 4 (by decide)
            · rw [ea]; exact hcx 5 (by decide)
            · rw [eb]; exact hcy 0 (by decide)
            · rw [eb]; exact hcy 1 (by decide)
            · rw [eb]; exact hcy 2 (by decide)
            · rw [eb]; exact hcy 3 (by decide)
            · rw [eb]; exact hcy 4 (by decide)
            · rw [eb]; exact hcy 5 (by decide)
          replace hX := hide hX
          replace hY := hide hY
          clear hcx hcy hca hcb hFa hFb hUa hUb hr0
          go_upto_region 10 with (fail)
          go_cut [10, 11] (fun t10 t11 wc => ∃ (bx bY : Nat), t10 = .pointer (some ⟨bx, 0, none⟩) ∧ t11 = .pointer (some ⟨bY, 0, none⟩) ∧ wr.heap.size ≤ bx ∧ wr.heap.size ≤ bY ∧ Hid (VB wc bx X) ∧ Hid (VB wc bY Y) ∧ Hid (Below wr.heap.size wr wc))
          case first =>
            have h0 := hS wr (Below.refl _ _)
            rw [hSd] at h0
            obtain ⟨⟨d0, d1⟩, ⟨e0, e1, e2, e3, e4, e5⟩, g0, g1, g2, g3, g4, g5⟩ := h0
            rw [hSd] at hS
            clear hSd
            refine wp_region_held_drew (S := fun W => (W.cell? ⟨b8, 0, none⟩ = some (.slice (some ⟨ba, offa, none⟩) kn kc) ∧ W.cell? ⟨b8, 1, none⟩ = some (.slice (some ⟨bb, offb, none⟩) kn kc2)) ∧ (W.cell? ⟨ba, offa + j * 6, none⟩ = some (.int .i64 X.k) ∧ W.cell? ⟨ba, offa + j * 6 + 1, none⟩ = some (.string X.nm) ∧ W.cell? ⟨ba, offa + j * 6 + 2, none⟩ = some (.slice X.na X.nn X.nc) ∧ W.cell? ⟨ba, offa + j * 6 + 3, none⟩ = some (.bool X.s) ∧ W.cell? ⟨ba, offa + j * 6 + 4, none⟩ = some (.slice X.a X.l X.c) ∧ W.cell? ⟨ba, offa + j * 6 + 5, none⟩ = some (.slice X.ka X.kn X.kc)) ∧ (W.cell? ⟨bb, offb + j * 6, none⟩ = some (.int .i64 Y.k) ∧ W.cell? ⟨bb, offb + j * 6 + 1, none⟩ = some (.string Y.nm) ∧ W.cell? ⟨bb, offb + j * 6 + 2, none⟩ = some (.slice Y.na Y.nn Y.nc) ∧ W.cell? ⟨bb, offb + j * 6 + 3, none⟩ = some (.bool Y.s) ∧ W.cell? ⟨bb, offb + j * 6 + 4, none⟩ = some (.slice Y.a Y.l Y.c) ∧ W.cell? ⟨bb, offb + j * 6 + 5, none⟩ = some (.slice Y.ka Y.kn Y.kc))) (by kernel_rfl) (hS _ (grow_drew (Below.refl _ _))) (fun hHeld => ?_)
            show wpAnyH _ _ _ _ _ 14 _ _ _
            have kW := grow_drew (Below.refl wr.heap.size wr)
            generalize wr.drew = wD at *
            refine wpAnyH_take (i := 0) (oi := ⟨some 41, _, _, _, _, _⟩) (v := ?_) rfl (by kernel_rfl) (by kernel_rfl) (by kernel_rfl) (fun _ _ _ h => by first | exact h | cases h.1) (Or.inl ⟨by rfl, ?_⟩) (by assumption) ?_
            rotate_left
            · intro wq hSw; (try dsimp only at hSw); go_simp; (try with_reducible rfl)
            (try simp only [Act.put, List.setIfInBounds_toArray, List.set_cons_zero, List.set_cons_succ])
            refine wpAnyH_take (i := 1) (oi := ⟨some 42, _, _, _, _, _⟩) (v := ?_) rfl (by kernel_rfl) (by kernel_rfl) (by kernel_rfl) (fun _ _ _ h => by first | exact h | cases h.1) (Or.inl ⟨by rfl, ?_⟩) (by assumption) ?_
            rotate_left
            · intro wq hSw; (try dsimp only at hSw); go_simp; (try with_reducible rfl)
            (try simp only [Act.put, List.setIfInBounds_toArray, List.set_cons_zero, List.set_cons_succ])
            refine wpAnyH_take (i := 2) (oi := ⟨some 43, _, _, _, _, _⟩) (v := ?_) rfl (by kernel_rfl) (by kernel_rfl) (by kernel_rfl) (fun _ _ _ h => by first | exact h | cases h.1) (Or.inl ⟨by rfl, ?_⟩) (by assumption) ?_
            rotate_left
            · intro wq hSw; (try dsimp only at hSw); go_simp; (try with_reducible rfl)
            (try simp only [Act.put, List.setIfInBounds_toArray, List.set_cons_zero, List.set_cons_succ])
            refine wpAnyH_take (i := 3) (oi := ⟨some 44, _, _, _, _, _⟩) (v := ?_) rfl (by kernel_rfl) (by kernel_rfl) (by kernel_rfl) (fun _ _ _ h => by first | exact h | cases h.1) (Or.inl ⟨by rfl, ?_⟩) (by assumption) ?_
            rotate_left
            · intro wq hSw; (try dsimp only at hSw); go_simp; (try with_reducible rfl)
            (try simp only [Act.put, List.setIfInBounds_toArray, List.set_cons_zero, List.set_cons_succ])
            refine wpAnyH_take (i := 4) (oi := ⟨some 45, _, _, _, _, _⟩) (v := ?_) rfl (by kernel_rfl) (by kernel_rfl) (by kernel_rfl) (fun _ _ _ h => by first | exact h | cases h.1) (Or.inl ⟨by rfl, ?_⟩) (by assumption) ?_
            rotate_left
            · intro wq hSw; (try dsimp only at hSw); go_simp; (try with_reducible rfl)
            (try simp only [Act.put, List.setIfInBounds_toArray, List.set_cons_zero, List.set_cons_succ])
            refine wpAnyH_take (i := 5) (oi := ⟨some 46, _, _, _, _, _⟩) (v := ?_) rfl (by kernel_rfl) (by kernel_rfl) (by kernel_rfl) (fun _ _ _ h => by first | exact h | cases h.1) (Or.inl ⟨by rfl, ?_⟩) (by assumption) ?_
            rotate_left
            · intro wq hSw; (try dsimp only at hSw); go_simp; (try with_reducible rfl)
            (try simp only [Act.put, List.setIfInBounds_toArray, List.set_cons_zero, List.set_cons_succ])
            refine wpAnyH_take (i := 6) (oi := ⟨some 47, _, _, _, _, _⟩) (v := ?_) rfl (by kernel_rfl) (by kernel_rfl) (by kernel_rfl) (fun _ _ _ h => by first | exact h | cases h.1) (Or.inl ⟨by rfl, ?_⟩) (by assumption) ?_
            rotate_left
            · intro wq hSw; (try dsimp only at hSw); go_simp; (try with_reducible rfl)
            (try simp only [Act.put, List.setIfInBounds_toArray, List.set_cons_zero, List.set_cons_succ])
            refine wpAnyH_take (i := 7) (oi := ⟨some 48, _, _, _, _, _⟩) (v := ?_) rfl (by kernel_rfl) (by kernel_rfl) (by kernel_rfl) (fun _ _ _ h => by first | exact h | cases h.1) (Or.inl ⟨by rfl, ?_⟩) (by assumption) ?_
            rotate_left
            · intro wq hSw; (try dsimp only at hSw); go_simp; (try with_reducible rfl)
            (try simp only [Act.put, List.setIfInBounds_toArray, List.set_cons_zero, List.set_cons_succ])
            refine wpAnyH_take (i := 8) (oi := ⟨some 49, _, _, _, _, _⟩) (v := ?_) rfl (by kernel_rfl) (by kernel_rfl) (by kernel_rfl) (fun _ _ _ h => by first | exact h | cases h.1) (Or.inl ⟨by rfl, ?_⟩) (by assumption) ?_
            rotate_left
            · intro wq hSw; (try dsimp only at hSw); go_simp; (try with_reducible rfl)
            (try simp only [Act.put, List.setIfInBounds_toArray, List.set_cons_zero, List.set_cons_succ])
            refine wpAnyH_take (i := 9) (oi := ⟨some 50, _, _, _, _, _⟩) (v := ?_) rfl (by kernel_rfl) (by kernel_rfl) (by kernel_rfl) (fun _ _ _ h => by first | exact h | cases h.1) (Or.inl ⟨by rfl, ?_⟩) (by assumption) ?_
            rotate_left
            · intro wq hSw; (try dsimp only at hSw); go_simp; (try with_reducible rfl)
            (try simp only [Act.put, List.setIfInBounds_toArray, List.set_cons_zero, List.set_cons_succ])
            refine wpAnyH_ready (rs := [10, 11]) (by kernel_rfl) (by simp) ?_
            refine AllReadyH.cons (o := ⟨some 10, _, _, _, _, _⟩) rfl (fun K hK => ?_) (AllReadyH.cons (o := ⟨some 11, _, _, _, _, _⟩) rfl (fun K hK => ?_) AllReadyH.nil)
            · have kA := below_alloc wD (.cells #[.int .i64 0, .string ⟨#[]⟩, .slice none 0 0, .bool false, .slice none 0 0, .slice none 0 0] 28)
              have zA := vb_zero wD
              have kW1 := grow_step kA kW
              have hlA : wD.heap.size < (wD.alloc (.cells #[.int .i64 0, .string ⟨#[]⟩, .slice none 0 0, .bool false, .slice none 0 0, .slice none 0 0] 28)).heap.size := by simp
              have hbA : wr.heap.size ≤ wD.heap.size := kW.size
              go_simp
              refine hK.out _ _ ?_ ?_
              · exact hS _ kW1
              clear hK K hHeld; intro hHeld
              (try simp only [Act.put, List.setIfInBounds_toArray, List.set_cons_zero, List.set_cons_succ])
              clear kW kA
              generalize wD.alloc (.cells #[.int .i64 0, .string ⟨#[]⟩, .slice none 0 0, .bool false, .slice none 0 0, .slice none 0 0] 28) = wA at *
              generalize wD.heap.size = bA at *
              refine wpAnyH_ready (rs := [11]) (by kernel_rfl) (by simp) ?_
              refine AllReadyH.cons (o := ⟨some 11, _, _, _, _, _⟩) rfl (fun K hK => ?_) AllReadyH.nil
              have kB := below_alloc wA (.cells #[.int .i64 0, .string ⟨#[]⟩, .slice none 0 0, .bool false, .slice none 0 0, .slice none 0 0] 28)
              have zB := vb_zero wA
              have zA := zA.below kB
              have kW2 := grow_step kB kW1
              have hbB : wr.heap.size ≤ wA.heap.size := by omega
              go_simp
              refine hK.out _ _ ?_ ?_
              · exact hS _ kW2
              clear hK K hHeld; intro hHeld
              (try simp only [Act.put, List.setIfInBounds_toArray, List.set_cons_zero, List.set_cons_succ])
              clear kW1 kB
              generalize wA.alloc (.cells #[.int .i64 0, .string ⟨#[]⟩, .slice none 0 0, .bool false, .slice none 0 0, .slice none 0 0] 28) = wB at *
              generalize wA.heap.size = bB at *
              refine wpAnyH_ready (rs := [12]) (by kernel_rfl) (by simp) ?_
              refine AllReadyH.cons (o := ⟨none, _, _, _, _, _⟩) rfl (fun K hK => ?_) AllReadyH.nil
              have q0 := zA.c0
              have q1 := zA.c1
              have q2' := zA.c2
              have q3 := zA.c3
              have q4 := zA.c4
              have q5 := zA.c5
              have f0 := zA.f 0
              have f1 := zA.f 1
              have f2 := zA.f 2
              have f3 := zA.f 3
              have f4 := zA.f 4
              have f5 := zA.f 5
              have ho := v_only wB bA X
              have hzn := vb_set zA X
              have hzo : VB (vSet wB bA X) bB _ := (ho.block _ (by omega)).trans zB
              have kW3 := below_only kW2 ho (by omega)
              go_simp
              refine hK.out _ _ ?_ ?_
              · exact hS _ kW3
              clear hK K hHeld; intro hHeld
              (try simp only [Act.put, List.setIfInBounds_toArray, List.set_cons_zero, List.set_cons_succ])
              clear q0 q1 q2' q3 q4 q5 f0 f1 f2 f3 f4 f5 ho zA zB kW2
              replace hzn := hide hzn
              replace hzo := hide hzo
              replace kW3 := hide kW3
              change Hid (VB (vSet wB bA X) bA X) at hzn
              change Hid (VB (vSet wB bA X) bB _) at hzo
              change Hid (Below _ _ (vSet wB bA X)) at kW3
              rw [v_fold] at hHeld ⊢
              generalize vSet wB bA X = wB at *
              have zN := hzn.out
              have zO := hzo.out
              have kW2 := kW3.out
              clear hzn hzo kW3
              refine wpAnyH_ready (rs := [13]) (by kernel_rfl) (by simp) ?_
              refine AllReadyH.cons (o := ⟨none, _, _, _, _, _⟩) rfl (fun K hK => ?_) AllReadyH.nil
              have q0 := zO.c0
              have q1 := zO.c1
              have q2' := zO.c2
              have q3 := zO.c3
              have q4 := zO.c4
              have q5 := zO.c5
              have f0 := zO.f 0
              have f1 := zO.f 1
              have f2 := zO.f 2
              have f3 := zO.f 3
              have f4 := zO.f 4
              have f5 := zO.f 5
              have ho := v_only wB bB Y
              have hzn := vb_set zO Y
              have hzo : VB (vSet wB bB Y) bA _ := (ho.block _ (by omega)).trans zN
              have kW3 := below_only kW2 ho (by omega)
              go_simp
              refine hK.out _ _ ?_ ?_
              · exact hS _ kW3
              clear hK K hHeld; intro hHeld
              (try simp only [Act.put, List.setIfInBounds_toArray, List.set_cons_zero, List.set_cons_succ])
              clear q0 q1 q2' q3 q4 q5 f0 f1 f2 f3 f4 f5 ho zO zN kW2
              replace hzn := hide hzn
              replace hzo := hide hzo
              replace kW3 := hide kW3
              change Hid (VB (vSet wB bB Y) bB Y) at hzn
              change Hid (VB (vSet wB bB Y) bA _) at hzo
              change Hid (Below _ _ (vSet wB bB Y)) at kW3
              refine wpAnyH_done (by kernel_rfl) ?_ _
              clear hHeld hS d0 d1 e0 e1 e2 e3 e4 e5 g0 g1 g2 g3 g4 g5
              go_wp2_with fail
              go_meet
              case rel => exact ⟨bA, bB, rfl, rfl, by omega, by omega, hzo, hzn, kW3⟩
            · have kA := below_alloc wD (.cells #[.int .i64 0, .string ⟨#[]⟩, .slice none 0 0, .bool false, .slice none 0 0, .slice none 0 0] 28)
              have zA := vb_zero wD
              have kW1 := grow_step kA kW
              have hlA : wD.heap.size < (wD.alloc (.cells #[.int .i64 0, .string ⟨#[]⟩, .slice none 0 0, .bool false, .slice none 0 0, .slice none 0 0] 28)).heap.size := by simp
              have hbA : wr.heap.size ≤ wD.heap.size := kW.size
              go_simp
              refine hK.out _ _ ?_ ?_
              · exact hS _ kW1
              clear hK K hHeld; intro hHeld
              (try simp only [Act.put, List.setIfInBounds_toArray, List.set_cons_zero, List.set_cons_succ])
              clear kW kA
              generalize wD.alloc (.cells #[.int .i64 0, .string ⟨#[]⟩, .slice none 0 0, .bool false, .slice none 0 0, .slice none 0 0] 28) = wA at *
              generalize wD.heap.size = bA at *
              refine wpAnyH_ready (rs := [10]) (by kernel_rfl) (by simp) ?_
              refine AllReadyH.cons (o := ⟨some 10, _, _, _, _, _⟩) rfl (fun K hK => ?_) AllReadyH.nil
              have kB := below_alloc wA (.cells #[.int .i64 0, .string ⟨#[]⟩, .slice none 0 0, .bool false, .slice none 0 0, .slice none 0 0] 28)
              have zB := vb_zero wA
              have zA := zA.below kB
              have kW2 := grow_step kB kW1
              have hbB : wr.heap.size ≤ wA.heap.size := by omega
              go_simp
              refine hK.out _ _ ?_ ?_
              · exact hS _ kW2
              clear hK K hHeld; intro hHeld
              (try simp only [Act.put, List.setIfInBounds_toArray, List.set_cons_zero, List.set_cons_succ])
              clear kW1 kB
              generalize wA.alloc (.cells #[.int .i64 0, .string ⟨#[]⟩, .slice none 0 0, .bool false, .slice none 0 0, .slice none 0 0] 28) = wB at *
              generalize wA.heap.size = bB at *
              refine wpAnyH_ready (rs := [12]) (by kernel_rfl) (by simp) ?_
              refine AllReadyH.cons (o := ⟨none, _, _, _, _, _⟩) rfl (fun K hK => ?_) AllReadyH.nil
              have q0 := zB.c0
              have q1 := zB.c1
              have q2' := zB.c2
              have q3 := zB.c3
              have q4 := zB.c4
              have q5 := zB.c5
              have f0 := zB.f 0
              have f1 := zB.f 1
              have f2 := zB.f 2
              have f3 := zB.f 3
              have f4 := zB.f 4
              have f5 := zB.f 5
              have ho := v_only wB bB X
              have hzn := vb_set zB X
              have hzo : VB (vSet wB bB X) bA _ := (ho.block _ (by omega)).trans zA
              have kW3 := below_only kW2 ho (by omega)
              go_simp
              refine hK.out _ _ ?_ ?_
              · exact hS _ kW3
              clear hK K hHeld; intro hHeld
              (try simp only [Act.put, List.setIfInBounds_toArray, List.set_cons_zero, List.set_cons_succ])
              clear q0 q1 q2' q3 q4 q5 f0 f1 f2 f3 f4 f5 ho zB zA kW2
              replace hzn := hide hzn
              replace hzo := hide hzo
              replace kW3 := hide kW3
              change Hid (VB (vSet wB bB X) bB X) at hzn
              change Hid (VB (vSet wB bB X) bA _) at hzo
              change Hid (Below _ _ (vSet wB bB X)) at kW3
              rw [v_fold] at hHeld ⊢
              generalize vSet wB bB X = wB at *
              have zN := hzn.out
              have zO := hzo.out
              have kW2 := kW3.out
              clear hzn hzo kW3
              refine wpAnyH_ready (rs := [13]) (by kernel_rfl) (by simp) ?_
              refine AllReadyH.cons (o := ⟨none, _, _, _, _, _⟩) rfl (fun K hK => ?_) AllReadyH.nil
              have q0 := zO.c0
              have q1 := zO.c1
              have q2' := zO.c2
              have q3 := zO.c3
              have q4 := zO.c4
              have q5 := zO.c5
              have f0 := zO.f 0
              have f1 := zO.f 1
              have f2 := zO.f 2
              have f3 := zO.f 3
              have f4 := zO.f 4
              have f5 := zO.f 5
              have ho := v_only wB bA Y
              have hzn := vb_set zO Y
              have hzo : VB (vSet wB bA Y) bB _ := (ho.block _ (by omega)).trans zN
              have kW3 := below_only kW2 ho (by omega)
              go_simp
              refine hK.out _ _ ?_ ?_
              · exact hS _ kW3
              clear hK K hHeld; intro hHeld
              (try simp only [Act.put, List.setIfInBounds_toArray, List.set_cons_zero, List.set_cons_succ])
              clear q0 q1 q2' q3 q4 q5 f0 f1 f2 f3 f4 f5 ho zO zN kW2
              replace hzn := hide hzn
              replace hzo := hide hzo
              replace kW3 := hide kW3
              change Hid (VB (vSet wB bA Y) bA Y) at hzn
              change Hid (VB (vSet wB bA Y) bB _) at hzo
              change Hid (Below _ _ (vSet wB bA Y)) at kW3
              refine wpAnyH_done (by kernel_rfl) ?_ _
              clear hHeld hS d0 d1 e0 e1 e2 e3 e4 e5 g0 g1 g2 g3 g4 g5
              go_wp2_with fail
              go_meet
              case rel => exact ⟨bB, bA, rfl, rfl, by omega, by omega, hzo, hzn, kW3⟩
          case rest =>
            obtain ⟨bx, bY, rfl, rfl, hbx, hbY, zx, zy, kW⟩ := hcut
            clear hS hSd S
            have hs1 := hide (hs.out.below kW.out)
            have hkp1 := hide (hkp.out.kf (Kf.of_below kW.out))
            have n2 : Hid (wc.heap[b8]? = some (.cells #[.slice (some ⟨ba, offa, none⟩) kn kc, .slice (some ⟨bb, offb, none⟩) kn kc2] 85 (0, 0))) := hide ((kW.out.block b8 (lt_of_block n1.out)).trans n1.out)
            have hX1 := hX.out.kf (Kf.of_below kW.out)
            have hY1 := hY.out.kf (Kf.of_below kW.out)
            obtain ⟨alx, aly⟩ := hs.out.al r0 (.inr List.mem_cons_self)
            have hal := hide (alike_n hX1 hY1 alx.self aly.self)
            have hsw : b8 < wr.heap.size := lt_of_block n1.out
            have hmw : bt + 2 < wr.heap.size := hs.out.m.met.lt
            replace hX1 := hide hX1
            replace hY1 := hide hY1
            clear hs hkp n1 hX hY kW alx aly
            have q0 := zx.out.c0
            have q1 := zx.out.c1
            have q2' := zx.out.c2
            have q3 := zx.out.c3
            have q4 := zx.out.c4
            have q5 := zx.out.c5
            have p0 := zy.out.c0
            have p1 := zy.out.c1
            have p2 := zy.out.c2
            have p3 := zy.out.c3
            have p4 := zy.out.c4
            have p5 := zy.out.c5
            go_wp2_with fail
            refine hal.out.mono ?_
            rintro e w2 ⟨rfl, k2⟩
            have hs2 := hide (hs1.out.below k2)
            have hkp2 := hide (hkp1.out.kf (Kf.of_below k2))
            have n3 : Hid (w2.heap[b8]? = some (.cells #[.slice (some ⟨ba, offa, none⟩) kn kc, .slice (some ⟨bb, offb, none⟩) kn kc2] 85 (0, 0))) := hide ((k2.block b8 (lt_of_block n2.out)).trans n2.out)
            have hX2 := hide (hX1.out.kf (Kf.of_below k2))
            have hY2 := hide (hY1.out.kf (Kf.of_below k2))
            have yx := hide (zx.out.below k2)
            have yy := hide (zy.out.below k2)
            clear hal q0 q1 q2' q3 q4 q5 p0 p1 p2 p3 p4 p5 hs1 hkp1 n2 hX1 hY1 zx zy k2
            obtain ⟨ab, hab⟩ : ∃ ab, alB r0.1 r0.2 = ab := ⟨_, rfl⟩
            rw [hab]
            cases ab with
            | false =>
              have hfin : Hid (SmR w (t, u) (.returned (.bool false)) w2) := hide ⟨hz.out.symm ▸ hs2.out.bl, false, ⟨fun h => absurd h (by decide), fun h => absurd h (hs2.out.d.bad hab)⟩, rfl⟩
              clear hs2 hkp2 n3 hX2 hY2 yx yy
              go_wp2
              refine bodyPost_ret (results_tmp rfl _ _ _) rfl ?_
              exact hfin.out
            | true =>
              obtain ⟨lx, kx, hlx⟩ := rt_of hX2.out
              obtain ⟨ly, ky, hly⟩ := rt_of hY2.out
              have hx3 := hX2.out
              have hy3 := hY2.out
              rw [hlx] at hx3
              rw [hly] at hy3
              have hkx := (rt_nd hx3).2
              have hky := (rt_nd hy3).2
              have ekx : ksO r0.1 = kx := by rw [hlx, ksO_nd]
              have eky : ksO r0.2 = ky := by rw [hly, ksO_nd]
              have hln : X.kn = Y.kn := by
                have h1 : (ksO r0.1).length = (ksO r0.2).length := by
                  have := hab
                  unfold alB at this
                  simp only [Bool.and_eq_true, decide_eq_true_eq] at this
                  exact this.2.2.2.2
                rw [ekx, eky, hkx.1, hky.1] at h1
                exact h1
              have hax : X.kn = 0 ∨ ∃ b off, X.ka = some ⟨b, off, none⟩ := hkx.2.imp id fun ⟨b, off, e, _⟩ => ⟨b, off, e⟩
              have hay : Y.kn = 0 ∨ ∃ b off, Y.ka = some ⟨b, off, none⟩ := hky.2.imp id fun ⟨b, off, e, _⟩ => ⟨b, off, e⟩
              have hsx := fun W => hide (spanOf_n W X.ka X.kn X.kc hax)
              have hsy := fun W => hide (spanOf_n W Y.ka Y.kn Y.kc hay)
              have hux : Un (SmF bt) w2 (if X.kn = 0 then none else X.ka) := by
                split
                · exact .inl rfl
                · rename_i h0
                  obtain ⟨b, off, e, hF, hu, -⟩ := hkx.2.resolve_left h0
                  exact .inr ⟨b, off, e, hF, hu⟩
              have huy : Un (SmF bt) w2 (if Y.kn = 0 then none else Y.ka) := by
                split
                · exact .inl rfl
                · rename_i h0
                  obtain ⟨b, off, e, hF, hu, -⟩ := hky.2.resolve_left h0
                  exact .inr ⟨b, off, e, hF, hu⟩
              obtain ⟨pa, hpa⟩ : ∃ pa, (if X.kn = 0 then none else X.ka) = pa := ⟨_, rfl⟩
              obtain ⟨pb, hpb⟩ : ∃ pb, (if Y.kn = 0 then none else Y.ka) = pb := ⟨_, rfl⟩
              simp only [spV] at hsx hsy
              rw [hpa] at hux
              rw [hpb] at huy
              simp only [hpa] at hsx
              simp only [hpb] at hsy
              replace hux := hide hux
              replace huy := hide huy
              replace hkx := hide hkx
              replace hky := hide hky
              replace hpa := hide hpa
              replace hpb := hide hpb
              replace hab := hide hab
              replace ekx := hide ekx
              replace eky := hide eky
              replace hln := hide hln
              clear hx3 hy3 hX2 hY2 hlx hly hax hay
              have hbxw : bx < w2.heap.size := yx.out.lt
              have hbYw : bY < w2.heap.size := yy.out.lt
              go_upto_region 13 with (fail)
              go_cut [12] (fun t12 wc => ∃ (bz : Nat), t12 = .pointer (some ⟨bz, 0, none⟩) ∧ w2.heap.size ≤ bz ∧ Hid (B2 wc bz pa X.kn pb Y.kn) ∧ Hid (Below w2.heap.size w2 wc))
              case first =>
                have c5 := yx.out.c5
                have g5 := yy.out.c5
                have hS : ∀ W, Below w2.heap.size w2 W → W.cell? ⟨bx, 5, none⟩ = some (.slice X.ka X.kn X.kc) ∧ W.cell? ⟨bY, 5, none⟩ = some (.slice Y.ka Y.kn Y.kc) := fun W k => ⟨(yx.out.below k).c5, (yy.out.below k).c5⟩
                clear hs2 hkp2 n3 hux huy hkx hky hpa hpb hab ekx eky hln
                refine wp_region_held_drew (S := fun W => W.cell? ⟨bx, 5, none⟩ = some (.slice X.ka X.kn X.kc) ∧ W.cell? ⟨bY, 5, none⟩ = some (.slice Y.ka Y.kn Y.kc)) (by kernel_rfl) (hS _ (grow_drew (Below.refl _ _))) (fun hHeld => ?_)
                show wpAnyH _ _ _ _ _ 9 _ _ _
                have kW := grow_drew (Below.refl w2.heap.size w2)
                generalize w2.drew = wQ at *
                clear c5 g5
                refine wpAnyH_take (i := 0) (oi := ⟨some 55, _, _, _, _, _⟩) (v := ?_) rfl (by kernel_rfl) (by kernel_rfl) (by kernel_rfl) (fun _ _ _ h => by first | exact h | cases h.1) (Or.inl ⟨by rfl, ?_⟩) (by assumption) ?_
                rotate_left
                · intro wq hSw; (try dsimp only at hSw); go_simp; (try with_reducible rfl)
                (try simp only [Act.put, List.setIfInBounds_toArray, List.set_cons_zero, List.set_cons_succ])
                refine wpAnyH_take (i := 1) (oi := ⟨some 56, _, _, _, _, _⟩) (v := ?_) rfl (by kernel_rfl) (by kernel_rfl) (by kernel_rfl) (fun _ _ _ h => by first | exact h | cases h.1) (Or.inl ⟨by rfl, ?_⟩) (by assumption) ?_
                rotate_left
                · intro wq hSw; (try dsimp only at hSw); go_simp; (try with_reducible rfl)
                (try simp only [Act.put, List.setIfInBounds_toArray, List.set_cons_zero, List.set_cons_succ])
                refine wpAnyH_take (i := 3) (oi := ⟨some 58, _, _, _, _, _⟩) (v := ?_) rfl (by kernel_rfl) (by kernel_rfl) (by kernel_rfl) (fun _ _ _ h => by first | exact h | cases h.1) (Or.inl ⟨by rfl, ?_⟩) (by assumption) ?_
                rotate_left
                · intro wq hSw; (try dsimp only at hSw); go_simp; (try with_reducible rfl)
                (try simp only [Act.put, List.setIfInBounds_toArray, List.set_cons_zero, List.set_cons_succ])
                refine wpAnyH_take (i := 4) (oi := ⟨some 59, _, _, _, _, _⟩) (v := ?_) rfl (by kernel_rfl) (by kernel_rfl) (by kernel_rfl) (fun _ _ _ h => by first | exact h | cases h.1) (Or.inl ⟨by rfl, ?_⟩) (by assumption) ?_
                rotate_left
                · intro wq hSw; (try dsimp only at hSw); go_simp; (try with_reducible rfl)
                (try simp only [Act.put, List.setIfInBounds_toArray, List.set_cons_zero, List.set_cons_succ])
                repeat' first
                  | with_reducible exact AllReadyH.nil
                  | (refine wpAnyH_done ?_ ?_ _
                     · decide +kernel
                     clear hHeld hS
                     replace zA := hide zA
                     replace kW := hide kW
                     go_wp2_with fail
                     go_meet
                     case rel => exact ⟨_, rfl, hbA, zA, kW⟩)
                  | (refine wpAnyH_ready (rs := [2, 7]) ?_ ?_ ?_; decide +kernel; simp)
                  | (refine wpAnyH_ready (rs := [5, 7]) ?_ ?_ ?_; decide +kernel; simp)
                  | (refine wpAnyH_ready (rs := [6, 7]) ?_ ?_ ?_; decide +kernel; simp)
                  | (refine wpAnyH_ready (rs := [2]) ?_ ?_ ?_; decide +kernel; simp)
                  | (refine wpAnyH_ready (rs := [5]) ?_ ?_ ?_; decide +kernel; simp)
                  | (refine wpAnyH_ready (rs := [6]) ?_ ?_ ?_; decide +kernel; simp)
                  | (refine wpAnyH_ready (rs := [7]) ?_ ?_ ?_; decide +kernel; simp)
                  | (refine wpAnyH_ready (rs := [8]) ?_ ?_ ?_; decide +kernel; simp)
                  | (
                    first
                      | (
                        refine AllReadyH.cons (i := 2) (o := ⟨some 57, _, _, _, _, _⟩) rfl (fun K hK => ?_) ?_
                        go_simp
                        refine Calls.mono (hsx _).out ?_
                        rintro e wC ⟨rfl, kC⟩
                        try have zA := zA.below kC
                        have kW := grow_step kC kW
                        try go_wp2_with fail)
                      | (
                        refine AllReadyH.cons (i := 5) (o := ⟨some 60, _, _, _, _, _⟩) rfl (fun K hK => ?_) ?_
                        go_simp
                        refine Calls.mono (hsy _).out ?_
                        rintro e wC ⟨rfl, kC⟩
                        try have zA := zA.below kC
                        have kW := grow_step kC kW
                        try go_wp2_with fail)
                      | (
                        refine AllReadyH.cons (i := 6) (o := ⟨some 61, _, _, _, _, _⟩) rfl (fun K hK => ?_) ?_
                        go_simp)
                      | (
                        refine AllReadyH.cons (i := 7) (o := ⟨some 12, _, _, _, _, _⟩) rfl (fun K hK => ?_) ?_
                        obtain ⟨wL, eL, zA, hbA, kL, kW⟩ := al_2 kW
                        go_simp
                        rw [eL.out])
                      | (
                        refine AllReadyH.cons (i := 8) (o := ⟨none, _, _, _, _, _⟩) rfl (fun K hK => ?_) ?_
                        have q0 := zA.c0
                        have q1 := zA.c1
                        have q2' := zA.c2
                        have q3 := zA.c3
                        have f0 := zA.fz 0
                        have f1 := zA.fz 1
                        have f2 := zA.fz 2
                        have f3 := zA.fz 3
                        go_simp
                        rw [s2_fold]
                        have zA := s2_set zA pa X.kn pb Y.kn
                        have kW := below_only kW (s2_only _ _ pa X.kn pb Y.kn) hbA
                        clear q0 q1 q2' q3 f0 f1 f2 f3)
                    refine hK.out _ _ ?_ ?_
                    · exact hS _ kW
                    clear hK K hHeld
                    intro hHeld
                    (try simp only [Act.put, List.setIfInBounds_toArray, List.set_cons_zero, List.set_cons_succ]))
              case rest =>
                obtain ⟨bz, rfl, hbz, zz, kW⟩ := hcut
                clear hsx hsy
                have hs3 := hs2.out.below kW.out
                have hkp3 := hide (hkp2.out.kf (Kf.of_below kW.out))
                have n4 : Hid (wc.heap[b8]? = some (.cells #[.slice (some ⟨ba, offa, none⟩) kn kc, .slice (some ⟨bb, offb, none⟩) kn kc2] 85 (0, 0))) := hide ((kW.out.block b8 (lt_of_block n3.out)).trans n3.out)
                have hkx3 := hide (KL.kf (s := ⟨X.ka, X.kn, X.kc⟩) hkx.out (Kf.of_below kW.out))
                have hky3 := hide (KL.kf (s := ⟨Y.ka, Y.kn, Y.kc⟩) hky.out (Kf.of_below kW.out))
                have yx3 := hide (yx.out.below kW.out)
                have yy3 := hide (yy.out.below kW.out)
                have hux3 := hux.out.kept fun b _ hu => kW.out.block b hu.lt
                have huy3 := huy.out.kept fun b _ hu => kW.out.block b hu.lt
                have hku : SpK2 (SmF bt) wc (sp2 pa X.kn pb Y.kn) := ⟨_, _, _, _, rfl, hux3, huy3⟩
                have hgz := hide (hs3.m.met.get (ky_two (SmF bt) wc) Tryz.underlying83 (zero_e2 wc) hku true)
                have q0 := zz.out.c0
                have q1 := zz.out.c1
                have q2' := zz.out.c2
                have q3 := zz.out.c3
                have hw8 : wr.heap.size ≤ w2.heap.size := by omega
                replace hs3 := hide hs3
                clear hs2 hkp2 n3 hkx hky yx yy hux huy kW
                have be := below_alloc wc (.cells #[] 92)
                have hsA := hide (hs3.out.below be)
                have hkpA := hide (hkp3.out.kf (Kf.of_below be))
                have nA := hide ((be.block b8 (lt_of_block n4.out)).trans n4.out)
                have hd0 := cnt_self (hs3.out.d.dep r0 (.inr List.mem_cons_self))
                rw [ekx.out] at hd0
                rw [List.map_cons, cnL_cons] at hm2
                have hzx : (kz r0).map Prod.fst = kx := by
                  unfold kz
                  rw [ekx.out, eky.out]
                  exact List.map_fst_zip (by rw [hkx3.out.1, hky3.out.1]; exact Nat.le_of_eq hln.out)
                have hzy : (kz r0).map Prod.snd = ky := by
                  unfold kz
                  rw [ekx.out, eky.out]
                  exact List.map_snd_zip (by rw [hkx3.out.1, hky3.out.1]; exact Nat.le_of_eq hln.out.symm)
                have ekz : kz r0 = kx.zip ky := by
                  unfold kz
                  rw [ekx.out, eky.out]
                have hwj : IntKind.i64.wrap ((j : Int) + 1) = ((j + 1 : Nat) : Int) := by
                  rw [IntKind.wrap_i64]
                  omega
                replace ekz := hide ekz
                replace hzx := hide hzx
                replace hzy := hide hzy
                rcases hgz.out with ⟨hno, hl⟩ | ⟨u0, hmem, hl⟩
                · simp only [if_true] at hl
                  unfold sp2 at hl
                  have hux4 := hux3.kept fun b _ hu => be.block b hu.lt
                  have huy4 := huy3.kept fun b _ hu => be.block b hu.lt
                  have heq : (Op.equalIn 9999 87 (.pointer pa) (.pointer pb)).run Tryz.prog (wc.alloc (.cells #[] 92)) = .ok (decide (pa = pb)) (wc.alloc (.cells #[] 92)) := eq_ptr hux4 huy4 9998
                  have hnn : ((X.kn : Int) == (Y.kn : Int)) = true := by
                    rw [hln.out]
                    simp
                  have qa0 := (zz.out.below be).c0
                  have qa1 := (zz.out.below be).c1
                  have qa2 := (zz.out.below be).c2
                  have qa3 := (zz.out.below be).c3
                  by_cases hpp : pa = pb
                  · rw [decide_eq_true hpp] at heq
                    have hsB := hide (hsA.out.see hab.out fun r hr => .inl (same_place hkx3.out hky3.out hln.out hpa.out hpb.out hpp r (ekz.out ▸ hr)))
                    replace hpp := hide hpp
                    clear hux3 huy3 hux4 huy4 hku hgz hs3 hkp3 n4 hsA hkx3 hky3 yx3 yy3 zz be hno
                    go_wp2
                    go_roundw
                    case measure => simp [intOf]; omega
                    case rel => exact ⟨j + 1, _, _, _, _, by omega, rfl, by omega, hv8, hsB, hkpA, nA⟩
                  · rw [decide_eq_false hpp] at heq
                    have hx0 : X.kn ≠ 0 := fun h0 => hpp (by rw [← hpa.out, ← hpb.out, if_pos h0, if_pos (hln.out ▸ h0)])
                    obtain rfl : X.ka = pa := by rw [← hpa.out, if_neg hx0]
                    obtain rfl : Y.ka = pb := by rw [← hpb.out, if_neg (hln.out ▸ hx0)]
                    have hkuA : SpK2 (SmF bt) (wc.alloc (.cells #[] 92)) (sp2 X.ka X.kn Y.ka Y.kn) := ⟨_, _, _, _, rfl, hux4, huy4⟩
                    obtain ⟨w4, E4, hrun, hput, hm4, g4⟩ := hsA.out.m.met.put Tryz.underlying83 hkuA (.agg #[])
                    unfold sp2 at hrun
                    have hbx2 : bx ≠ bt + 2 := by omega
                    have hbY2 : bY ≠ bt + 2 := by omega
                    have c5 := ((yx3.out.below be).grown g4 hbx2).c5
                    have g5 := ((yy3.out.below be).grown g4 hbY2).c5
                    have b5 := below_alloc w4 (.cells #[.slice X.ka X.kn X.kc, .slice Y.ka Y.kn Y.kc] 85)
                    have n5 := heap_alloc_new w4 (.cells #[.slice X.ka X.kn X.kc, .slice Y.ka Y.kn Y.kc] 85)
                    have ho5 := hide ((own_map hsA.out.m.met g4 hsA.out.m.own).alloc (.cells #[.slice X.ka X.kn X.kc, .slice Y.ka Y.kn Y.kc] 85))
                    have hc5 : Hid (∀ j v, (Sl2.enc ⟨⟨X.ka, X.kn, X.kc⟩, ⟨Y.ka, Y.kn, Y.kc⟩⟩)[j]? = some v → (w4.alloc (.cells #[.slice X.ka X.kn X.kc, .slice Y.ka Y.kn Y.kc] 85)).cell? ⟨w4.heap.size, j, none⟩ = some v) := hide fun j v hv => by
                      rw [cell_of_row _ w4.heap.size j _ _ (0, 0) n5, List.getElem?_toArray]
                      exact hv
                    have hz5 : bt + 5 ≤ (w4.alloc (.cells #[.slice X.ka X.kn X.kc, .slice Y.ka Y.kn Y.kc] 85)).heap.size := Nat.le_trans hsA.out.sz (Nat.le_trans g4.size b5.size)
                    have hkab : KP (SmF bt) (wc.alloc (.cells #[] 92)) ⟨⟨X.ka, X.kn, X.kc⟩, ⟨Y.ka, Y.kn, Y.kc⟩⟩ (kz r0) := by
                      refine ⟨?_, ?_⟩
                      · rw [hzx.out]
                        exact KL.kf hkx3.out (Kf.of_below be)
                      · rw [hzy.out]
                        exact KL.kf hky3.out (Kf.of_below be)
                    have g45 := hide (gbb g4 (gb_of b5))
                    have hm5 := hide (Met2.below hm4 b5)
                    have hb82 : b8 ≠ bt + 2 := ub_not_map hsA.out.m.met ⟨_, _, nA.out⟩
                    have hq2 : q2.length = LL2.length := hsA.out.m.pr.1
                    have hq3 : q2.length ≤ 4294967296 := by omega
                    have hszA : b8 < w4.heap.size := Nat.lt_of_lt_of_le (lt_of_block nA.out) g4.size
                    replace hkab := hide hkab
                    replace hput := hide hput
                    replace hq2 := hide hq2
                    clear hux3 huy3 hux4 huy4 hku hkuA hgz hs3 hkp3 n4 yx3 yy3 zz be hno n5 hm4 g4 hpp b5 hpa hpb
                    go_wp2_with (refine appP rfl _ _ rfl (bt + 5) _ q2.length q2 rfl ho5.out ⟨⟨X.ka, X.kn, X.kc⟩, ⟨Y.ka, Y.kn, Y.kc⟩⟩ w4.heap.size rfl hc5.out (by omega) hz5 ?_)
                    intro v' w6 ho6 hg6 hb6
                    have hsC := hide (hsA.out.lay (s := ⟨⟨X.ka, X.kn, X.kc⟩, ⟨Y.ka, Y.kn, Y.kc⟩⟩) hab.out g45.out hput.out hm5.out hkab.out (by rw [ekx.out]; have := hkab.out.1; rw [hzx.out] at this; exact this) (by rw [eky.out]; have := hkab.out.2; rw [hzy.out] at this; exact this) ho6 hg6)
                    have hob7 : ∀ b, u6.ownBlock = some b → bt + 5 ≤ b := fun b e => (hsA.out.m.own.lt b e).1
                    have nC := hide ((hg6.block b8 (Nat.lt_of_lt_of_le (lt_of_block nA.out) g45.out.size) fun e => hv8 e.symm).trans ((g45.out.block b8 (lt_of_block nA.out) fun e => hb82 (Option.some.inj e)).trans nA.out))
                    have hkpC := hide ((hkpA.out.kf (Kf.of_grown g45.out fun h => h.2 rfl)).kf (⟨hg6.size, fun b hb hl => hg6.block b hl fun e => by have := hob7 b e.symm; have := hb.1; omega⟩ : Kf (SmF bt) _ _))
                    have hv9 : v'.ownBlock ≠ some b8 := by
                      rcases hb6 with e | e
                      · rw [e]; exact hv8
                      · rw [e]
                        intro e
                        have := Option.some.inj e
                        have := Nat.lt_of_lt_of_le (lt_of_block nA.out) g45.out.size
                        omega
                    have hmC : (LL2 ++ [kz r0]).length + 2 * cnL f ((LL2 ++ [kz r0]).flatten.map Prod.fst) + 2 * cnL f ((L.drop (j + 1)).map Prod.fst) + (j + 1) ≤ LL'.length + 2 * (cnL f (LL'.flatten.map Prod.fst) + cnL f (L.map Prod.fst)) := by
                      rw [List.length_append, List.length_singleton, List.flatten_append, List.map_append, cnL_append]
                      simp only [List.flatten_cons, List.flatten_nil, List.append_nil]
                      rw [hzx.out]
                      omega
                    obtain ⟨-, av6, cv6, rfl, -⟩ := own_pairs ho6
                    clear ho6 hg6 hb6 ho5 hc5 hm5 hsA g45 hkab hkpA nA hput c5 g5 hob7
                    go_wp2
                    go_roundw
                    case measure => simp [intOf]; omega
                    case rel => exact ⟨j + 1, _, _, _, _, by omega, rfl, hmC, hv9, hsC, hkpC, nC⟩
                · obtain rfl : u0 = .agg #[] := hs3.out.va _ hmem
                  simp only [if_true] at hl
                  unfold sp2 at hl
                  have hsB := hide (hsA.out.see hab.out fun r hr => met_place hsA.out.m (KL.kf hkx3.out (Kf.of_below be)) (KL.kf hky3.out (Kf.of_below be)) hln.out hpa.out hpb.out ⟨_, hmem⟩ r (ekz.out ▸ hr))
                  clear hux3 huy3 hku hgz hs3 hkp3 n4 hsA hkx3 hky3 yx3 yy3 zz be hmem
                  go_wp2
                  go_roundw
                  case measure => simp [intOf]; omega
                  case rel => exact ⟨j + 1, _, _, _, _, by omega, rfl, by omega, hv8, hsB, hkpA, nA⟩
        · obtain rfl : j = kn := by omega
          have hlt2 : decide ((j : Int) < (j : Int)) = false := by simp
          rw [show L.drop j = [] by rw [← hLn.out]; exact List.drop_length] at hs hm2
          rw [show cnL f (([] : List P2).map Prod.fst) = 0 from rfl] at hm2
          clear hkp n1
          go_wp2
          go_roundg (gk - 1)
          case measure => omega
          case rel => exact ⟨_, _, _, _, by omega, by omega, hs⟩
end Sx
end Go.Proofs.YtkcklmipldcceaaGreatDoor

namespace Go.Proofs.YtkcklmipldcceaaGreatDoor
open Go.RowKit
namespace Sx

def depF : Nat → Tr → Nat
 | 0, _ => 0
 | n + 1, t => (ksO t).foldl (fun a k => if a < depF n k then depF n k else a) 0 + 1
def mxF (n : Nat) (l : List Tr) : Nat := l.foldl (fun a k => if a < depF n k then depF n k else a) 0
theorem dep_succ (n : Nat) (t : Tr) : depF (n + 1) t = mxF n (ksO t) + 1 := rfl
theorem mx_snoc (n : Nat) (l : List Tr) (k : Tr) : mxF n (l ++ [k]) = if mxF n l < depF n k then depF n k else mxF n l := by
 unfold mxF
 rw [List.foldl_append]
 rfl
theorem dep_le (n : Nat) : ∀ t, depF n t ≤ n := by
 induction n with
 | zero => exact fun t => Nat.le_refl _
 | succ n ih =>
  intro t
  rw [dep_succ]
  have : ∀ l : List Tr, ∀ a, a ≤ n → l.foldl (fun a k => if a < depF n k then depF n k else a) a ≤ n := by
   intro l
   induction l with
   | nil => exact fun a h => h
   | cons k l ihl =>
    intro a h
    refine ihl _ ?_
    show (if a < depF n k then depF n k else a) ≤ n
    split
    ·exact ih k
    ·exact h
  have := this (ksO t) 0 (Nat.zero_le _)
  unfold mxF
  omega
theorem mx_iff (n m : Nat) (l : List Tr) : m < mxF n l ↔ ∃ k ∈ l, m < depF n k := by
 have : ∀ (l : List Tr) a, m < l.foldl (fun a k => if a < depF n k then depF n k else a) a ↔ m < a ∨ ∃ k ∈ l, m < depF n k := by
  intro l
  induction l with
  | nil => intro a; simp
  | cons k l ih =>
   intro a
   rw [List.foldl_cons, ih]
   constructor
   ·rintro (h | ⟨v, hv, h⟩)
    ·split at h
     ·exact .inr ⟨k, List.mem_cons_self, h⟩
     ·exact .inl h
    ·exact .inr ⟨v, List.mem_cons_of_mem _ hv, h⟩
   ·rintro (h | ⟨v, hv, h⟩)
    ·left
     split
     ·omega
     ·exact h
    ·rcases List.mem_cons.1 hv with rfl | hv
     ·left
      split
      ·exact h
      ·omega
     ·exact .inr ⟨v, hv, h⟩
 unfold mxF
 rw [this]
 simp
/-- how deep a tree is -/
theorem dep_iff (n : Nat) : ∀ {t : Tr} {m : Nat}, ¬ Dp n t → (m < depF n t ↔ Dp m t) := by
 induction n with
 | zero => exact fun {t m} h => absurd ⟨t, rfl⟩ h
 | succ n ih =>
  intro t m h
  rw [dep_succ]
  cases m with
  | zero => exact ⟨fun _ => ⟨t, rfl⟩, fun _ => by omega⟩
  | succ m =>
   have e1 : m + 1 < mxF n (ksO t) + 1 ↔ m < mxF n (ksO t) := by omega
   rw [e1, mx_iff]
   constructor
   ·rintro ⟨k, hk, h2⟩
    obtain ⟨u, hu⟩ := (ih fun h3 => h (by obtain ⟨u, hu⟩ := h3; exact ⟨u, k, hk, hu⟩)).1 h2
    exact ⟨u, k, hk, hu⟩
   ·rintro ⟨u, k, hk, hu⟩
    exact ⟨k, hk, (ih fun h3 => h (by obtain ⟨u, hu⟩ := h3; exact ⟨u, k, hk, hu⟩)).2 ⟨u, hu⟩⟩
set_option maxRecDepth 100000 in
set_option maxHeartbeats 3200000 in
theorem depth_n (n : Nat) (hn : n ≤ 1000000) : ∀ {F : Nat → Prop} {w : World} {x : TC} {t : Tr}, Rt F w x t → ¬ Dp n t → (∀ i u, At4 i t u → (ksO u).length ≤ 1073741824) →
  Calls Tryz.prog 32 #[x.val] w fun e w' => e = .returned (.int .i64 (depF n t)) ∧ Below w.heap.size w w' := by
 induction n with
 | zero => exact fun {_ _ _ t} _ h => absurd ⟨t, rfl⟩ h
 | succ n ih =>
  intro F w x t hx hd hle
  obtain ⟨lb, ks, rfl⟩ := rt_of hx
  obtain ⟨-, hk1⟩ := rt_nd hx
  have hkm := hle 0 _ rfl
  rw [ksO_nd] at hkm
  have b1 := below_alloc w (.cells #[.int .i64 x.k, .string x.nm, .slice x.na x.nn x.nc, .bool x.s, .slice x.a x.l x.c, .slice x.ka x.kn x.kc] 28)
  have y1 := vb_new w x
  have g1 := KL.kf (s := ⟨x.ka, x.kn, x.kc⟩) hk1 (Kf.of_below b1)
  have hdk : ∀ k ∈ ks, ¬ Dp n k := fun k hk h => hd (dp_nd.2 ⟨k, hk, h⟩)
  have hlk : ∀ k ∈ ks, ∀ i u, At4 i k u → (ksO u).length ≤ 1073741824 := fun k hk i u hu => hle (i + 1) u ⟨k, hk, hu⟩
  have hF : Hid (depF (n + 1) (nd lb ks) = mxF n ks + 1) := hide rfl
  have hmk := g1.1
  have hb := hide b1
  clear hk1 hx hd hle b1
  obtain ⟨k, nm, na, nn, nc, s, a, l, c, ka, kn, kc⟩ := x
  dsimp only at *
  go_enter Tryz.func32, Tryz.ntmps32
  go_wp2_with fail
  generalize w.alloc (.cells #[.int .i64 k, .string nm, .slice na nn nc, .bool s, .slice a l c, .slice ka kn kc] 28) = W at *
  generalize hz : w.heap.size = bt at *
  replace hz := hide hz
  have hbW : bt ≤ W.heap.size := Nat.le_of_lt y1.lt
  go_loopw [3, 4] (fun d i wr => ∃ j : Nat, j ≤ kn ∧ i = .int .i64 j ∧ d = .int .i64 (mxF n (ks.take j)) ∧ Hid (Below W.heap.size W wr)) (fun _ i _ => kn - (intOf i).toNat)
  case atStart => exact ⟨0, Nat.zero_le _, rfl, rfl, hide (Below.refl _ _)⟩
  case round =>
   obtain ⟨j, hj, rfl, rfl, kw⟩ := hrel
   have v1 := y1.below kw.out
   have a5 := v1.c5
   dsimp only at a5
   by_cases hjn : j < kn
   ·have hlt : decide ((j : Int) < (kn : Int)) = true := by
     rw [decide_eq_true_eq]
     omega
    have hi : (j : Int) < (kn : Int) := by omega
    have hwr : IntKind.i64.wrap ((j : Int) + 1) = ((j + 1 : Nat) : Int) := by
     rw [IntKind.wrap_i64]
     omega
    have hjl : j < ks.length := by omega
    obtain ⟨b2, o2, p, e1, hb2, hc2, q2⟩ := rk_at g1 hjl
    dsimp only at e1
    subst e1
    have hone := hide (take_one (List.getElem?_eq_getElem hjl))
    have hdj := hdk _ (List.getElem_mem hjl)
    have hlj := hlk _ (List.getElem_mem hjl)
    generalize ks[j] = u at q2 hdj hlj hone
    have hex := hide (ih (by omega) (rt_below q2 kw.out) hdj hlj)
    have hcw : ∀ i, i < 6 → wr.cell? ⟨b2, o2 + j * 6 + i, none⟩ = p.enc[i]? := fun i hi => (World.cell?_of_block (a := ⟨b2, o2 + j * 6 + i, none⟩) (kw.out.block b2 hb2)).trans (hc2 i hi)
    have e0 : wr.cell? ⟨b2, o2 + j * 6, none⟩ = some (.int .i64 p.k) := hcw 0 (by decide)
    have e1 : wr.cell? ⟨b2, o2 + j * 6 + 1, none⟩ = some (.string p.nm) := hcw 1 (by decide)
    have e2 : wr.cell? ⟨b2, o2 + j * 6 + 2, none⟩ = some (.slice p.na p.nn p.nc) := hcw 2 (by decide)
    have e3 : wr.cell? ⟨b2, o2 + j * 6 + 3, none⟩ = some (.bool p.s) := hcw 3 (by decide)
    have e4 : wr.cell? ⟨b2, o2 + j * 6 + 4, none⟩ = some (.slice p.a p.l p.c) := hcw 4 (by decide)
    have e5 : wr.cell? ⟨b2, o2 + j * 6 + 5, none⟩ = some (.slice p.ka p.kn p.kc) := hcw 5 (by decide)
    have hnew : Hid (mxF n (ks.take (j + 1)) = if mxF n (ks.take j) < depF n u then depF n u else mxF n (ks.take j)) := hide (by rw [hone.out, mx_snoc])
    clear hc2 hcw q2 hone hdj hlj
    generalize mxF n (ks.take j) = m1 at *
    generalize depF n u = m2 at *
    go_wp2_with fail
    refine hex.out.mono ?_
    rintro e w1 ⟨rfl, k1⟩
    have kw1 := hide (grow_step k1 kw.out)
    clear hex k1 kw e0 e1 e2 e3 e4 e5 a5 v1
    by_cases hm : m1 < m2
    ·have hm1 : decide ((m1 : Int) < (m2 : Int)) = true := by
      rw [decide_eq_true_eq]
      omega
     rw [if_pos hm] at hnew
     go_wp2
     go_roundw
     case measure => simp [intOf]; omega
     case rel => exact ⟨j + 1, by omega, by first | rfl | trivial, by rw [hnew.out], kw1⟩
    ·have hm1 : decide ((m1 : Int) < (m2 : Int)) = false := by
      rw [decide_eq_false_iff_not]
      omega
     rw [if_neg hm] at hnew
     go_wp2
     go_roundw
     case measure => simp [intOf]; omega
     case rel => exact ⟨j + 1, by omega, by first | rfl | trivial, by rw [hnew.out], kw1⟩
   ·obtain rfl : j = kn := by omega
    have hlt : decide ((j : Int) < (j : Int)) = false := by simp
    have hall : ks.take j = ks := by rw [← hmk]; exact List.take_length
    have hbd := dep_le (n + 1) (nd lb ks)
    rw [hF.out] at hbd
    rw [hall]
    generalize mxF n ks = mm at *
    have hwr : IntKind.i64.wrap ((mm : Int) + 1) = ((mm + 1 : Nat) : Int) := by
     rw [IntKind.wrap_i64]
     omega
    go_wp2
    go_ret
    exact ⟨by rw [hF.out]; first | rfl | exact ret_int (by omega), hz.out.symm ▸ hb.out.trans (kw.out.mono hbW)⟩
end Sx
end Go.Proofs.YtkcklmipldcceaaGreatDoor
