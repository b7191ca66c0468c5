/-
 Layer 19: all wanted sets, each younger than the call.
-/
import Derived.Test.YtfannonacamhhaaGreatCpt21
namespace Go.Proofs.YtfannonacamhhaaGreat
open Go.RowKit Go.Sort
namespace Pd

theorem Yo.grown {F : Nat} {w w' : World} {b : Nat} {o : Option Nat} (h : Yo F w b) (hg : w.grownBy w' o) (ho : ∀ g, o = some g → ∃ e, Own w g e ∧ 82 ≠ e) : Yo F w' b := let ⟨v, p, h1, h2, h3⟩ := h; ⟨v, p, h1.grown hg ho, h2, h3⟩
/-- sets, one by one, each younger than a place -/
structure Py (F : Nat) (w : World) (q : List Nat) (Ds : List PD) : Prop where
 pp : Pp w q Ds
 yo : ∀ b ∈ q, Yo F w b
theorem Py.below {F : Nat} {w w' : World} {q : List Nat} {Ds : List PD} (h : Py F w q Ds) (k : Below w.heap.size w w') : Py F w' q Ds := ⟨h.pp.below k, fun b hb => (h.yo b hb).below k⟩
theorem Py.app {F : Nat} {w : World} {q r : List Nat} {xs ys : List PD} (h : Py F w q xs) (h2 : Py F w r ys) : Py F w (q ++ r) (xs ++ ys) := ⟨h.pp.app h2.pp, fun b hb => (List.mem_append.1 hb).elim (h.yo b) (h2.yo b)⟩
theorem py_one {F : Nat} {w : World} {b : Nat} {D : PD} (h : PS w b D) (hy : Yo F w b) : Py F w [b] [D] := ⟨pp_one h, fun c hc => by rw [List.mem_singleton.1 hc]; exact hy⟩
/-- sets in a slice, each younger than a place -/
def SY (F : Nat) (w : World) (ad : Option Addr) (n : Nat) (Ds : List PD) : Prop :=
 Ds.length = n ∧ (n = 0 ∨ ∃ b q, ad = some ⟨b, 0, none⟩ ∧ b < w.heap.size ∧ Py F w q Ds ∧ ∀ i (h : i < q.length), w.cell? ⟨b, i, none⟩ = some (.pointer (some ⟨q[i], 0, none⟩)))
theorem SY.below {F : Nat} {w w' : World} {ad : Option Addr} {n : Nat} {Ds : List PD} (h : SY F w ad n Ds) (k : Below w.heap.size w w') : SY F w' ad n Ds := by
 refine ⟨h.1, h.2.imp id ?_⟩
 rintro ⟨b, q, e, hb, hq, hc⟩
 exact ⟨b, q, e, Nat.lt_of_lt_of_le hb k.size, hq.below k, fun i hi => (k.cell (p := ⟨b, i, none⟩) hb).trans (hc i hi)⟩
theorem SY.get {F : Nat} {w : World} {ad : Option Addr} {n : Nat} {Ds : List PD} (h : SY F w ad n Ds) {i : Nat} (hi : i < n) (hi' : i < Ds.length) : ∃ b s, ad = some ⟨b, 0, none⟩ ∧ b < w.heap.size ∧ w.cell? ⟨b, i, none⟩ = some (.pointer (some ⟨s, 0, none⟩)) ∧ PS w s Ds[i] ∧ Yo F w s := by
 obtain ⟨hl, h0 | ⟨b, q, e, hb, hq, hc⟩⟩ := h
 ·omega
 ·have hql := hq.pp.len
  exact ⟨b, q[i]'(by omega), e, hb, hc i (by omega), hq.pp.st i (by omega) hi', hq.yo _ (List.getElem_mem _)⟩
theorem Py.grown {F : Nat} {w w' : World} {base n : Nat} {v : Value} {q r : List Nat} {Ds : List PD} (h : Py F w r Ds) (ho : OwP w base v n q) (hg : w.grownBy w' v.ownBlock) : Py F w' r Ds := by
 refine ⟨h.pp.grown ho hg, fun b hb => ?_⟩
 obtain ⟨-, g, c, -, -, -, h1, hO, h2, -⟩ := ho.any (by decide) encp_len
 rw [h2] at hg
 exact (h.yo b hb).grown hg fun g' e => by cases e; exact ⟨_, hO, by decide⟩
theorem owp_sy {F : Nat} {w : World} {base n : Nat} {v : Value} {q : List Nat} {Ds : List PD} (h : OwP w base v n q) (hq : Py F w q Ds) : ∃ a c, v = .slice a n c ∧ SY F w a n Ds := by
 obtain ⟨h1, g, c, rfl, h2, h3, h4, ho, h5, hc⟩ := h.any (by decide) encp_len
 refine ⟨_, c, rfl, by rw [← hq.pp.len, h1], .inr ⟨g, q, rfl, ho.lt, hq, fun i hi => ?_⟩⟩
 have := hc i hi 0 (by decide)
 rw [Nat.mul_one, Nat.add_zero] at this
 exact this
/-- what do answers -/
def DoGY (F : Nat) (w w' : World) (en : Ending) (m : MkD) (Ds : List PD) (N : Nat) : Prop :=
 Below w.heap.size w w' ∧ ((∃ err D, err ≠ 0 ∧ en = .returned (.tuple #[.pointer none, .int .i64 err]) ∧ DoR m Ds err D) ∨ (∃ b D, en = .returned (.tuple #[.pointer (some ⟨b, 0, none⟩), .int .i64 0]) ∧ PS w' b D ∧ Yo F w' b ∧ D.cs.length ≤ 2 * N ∧ DoR m Ds 0 D))
set_option maxRecDepth 100000 in
set_option maxHeartbeats 1600000 in
theorem none_y (w : World) : Calls Tryz.prog 9 #[] w fun e w' => ∃ b D, e = .returned (.pointer (some ⟨b, 0, none⟩)) ∧ PS w' b D ∧ Yo w.heap.size w' b ∧ Below w.heap.size w w' ∧ (∀ x, mem D x = false) ∧ D.p = 1 ∧ D.cs = [] := by
 have hnr := hide (newRow_n (p := 1) (by decide) w)
 go_enter Tryz.func9, Tryz.ntmps9
 go_wp2_with fail
 refine hnr.out.mono ?_
 rintro e w1 ⟨rfl, rfl⟩
 clear hnr
 have hps := hide (ps_one (rb_new w (List.replicate (wn 1) 0)) (rok_zero 1) (by decide) (by decide))
 have hyo := hide ((yo_one (w.alloc (.cells (Uw (List.replicate (wn 1) 0)) 117)) w.heap.size (wn 1) 1).mono (show w.heap.size ≤ _ by simp))
 have b0 := hide (below_alloc w (.cells (Uw (List.replicate (wn 1) 0)) 117))
 go_wp2
 refine bodyPost_ret (results_tmp rfl _ _ _) rfl ⟨_, ⟨1, [], [List.replicate (wn 1) 0]⟩, rfl, ?_, ?_, ?_, fun x => hb_rep _ _, rfl, rfl⟩
 ·have := hps.out.1
  simpa using this
 ·have := hyo.out
  simpa using this
 ·have := grow_step hps.out.2 b0.out
  simpa using this
set_option maxRecDepth 100000 in
set_option maxHeartbeats 6400000 in
theorem do19_y {F : Nat} {w : World} {m : MkD} {zk zd : ZV} {la : Option Addr} {ln lc N : Nat} {Ds : List PD} (hk : Zm w zk.s zk.a zk.l zk.c m.x) (hkl : zk.l ≤ 1048576) (hd : Zm w zd.s zd.a zd.l zd.c m.d) (hdl : zd.l ≤ 1048576) (ik : Iw m.k) (ia : Iw m.a) (ib : Iw m.b) (hs : SY F w la ln Ds) (hF : F ≤ w.heap.size) (hn1 : 1 ≤ ln) (hn2 : ln ≤ 1000) (hN : 1 ≤ N) (hN2 : N ≤ 65536) (hcs : ∀ D ∈ Ds, D.cs.length ≤ N) :
  Calls Tryz.prog 66 #[.agg #[.int .i64 m.k, .int .i64 m.a, .int .i64 m.b, .bool zk.s, .slice zk.a zk.l zk.c, .bool zd.s, .slice zd.a zd.l zd.c], .slice la ln lc] w fun e w' => DoGY F w w' e m Ds N := by
 have b0 := below_alloc w (.cells #[.int .i64 m.k, .int .i64 m.a, .int .i64 m.b, .bool zk.s, .slice zk.a zk.l zk.c, .bool zd.s, .slice zd.a zd.l zd.c] 40)
 have y0 := heap_alloc_new w (.cells #[.int .i64 m.k, .int .i64 m.a, .int .i64 m.b, .bool zk.s, .slice zk.a zk.l zk.c, .bool zd.s, .slice zd.a zd.l zd.c] 40)
 have hsl : Hid (Ds.length = ln) := hide hs.1
 obtain ⟨ha1, ha2⟩ := ia
 obtain ⟨hb1, hb2⟩ := ib
 obtain ⟨hk1, hk2⟩ := ik
 replace hcs := hide hcs
 replace hk := hide (hk.below b0)
 replace hd := hide (hd.below b0)
 replace hs := hide (hs.below b0)
 have hpa := pkN_lt (c := m.a) (n := (ln : Int)) (by omega)
 have hpb := pkN_lt (c := m.b) (n := (ln : Int)) (by omega)
 have hpk := pkN_lt (c := m.k) (n := 8) (by omega)
 obtain ⟨kk, hkk⟩ : ∃ kk, pkN m.k 8 = kk := ⟨_, rfl⟩
 rw [hkk] at hpk
 replace hkk := hide hkk
 obtain ⟨ja, hja⟩ : ∃ ja, pkN m.a (ln : Int) = ja := ⟨_, rfl⟩
 rw [hja] at hpa
 obtain ⟨jb, hjb⟩ : ∃ jb, pkN m.b (ln : Int) = jb := ⟨_, rfl⟩
 rw [hjb] at hpb
 have hjal : ja < Ds.length := by rw [hsl.out]; omega
 have hjbl : jb < Ds.length := by rw [hsl.out]; omega
 have hDR : Hid (∀ err D, DoR m Ds err D ↔ DoR' m Ds[ja] Ds[jb] kk err D) := hide fun err D => by
  unfold DoR
  rw [hsl.out, hja, hjb, hkk.out, List.getD_eq_getElem?_getD, List.getD_eq_getElem?_getD, List.getElem?_eq_getElem hjal, List.getElem?_eq_getElem hjbl]
  rfl
 have hcA := hcs.out _ (List.getElem_mem hjal)
 have hcB := hcs.out _ (List.getElem_mem hjbl)
 obtain ⟨lb, sa, rfl, hlb, l0, hA, hyA⟩ := hs.out.get (show ja < ln by omega) hjal
 obtain ⟨lb', sb, e, -, l1, hB, -⟩ := hs.out.get (show jb < ln by omega) hjbl
 cases e
 generalize Ds[ja] = A at *
 generalize Ds[jb] = B at *
 have q0 := cell_of_row _ _ 0 _ _ (0, 0) y0
 have q1 := cell_of_row _ _ 1 _ _ (0, 0) y0
 have q2 := cell_of_row _ _ 2 _ _ (0, 0) y0
 have q3 := cell_of_row _ _ 3 _ _ (0, 0) y0
 have q4 := cell_of_row _ _ 4 _ _ (0, 0) y0
 have q5 := cell_of_row _ _ 5 _ _ (0, 0) y0
 have q6 := cell_of_row _ _ 6 _ _ (0, 0) y0
 have hbt : w.heap.size < (w.alloc (.cells #[.int .i64 m.k, .int .i64 m.a, .int .i64 m.b, .bool zk.s, .slice zk.a zk.l zk.c, .bool zd.s, .slice zd.a zd.l zd.c] 40)).heap.size := by simp
 replace hA := hide hA
 replace hyA := hide hyA
 replace hB := hide hB
 replace b0 := hide b0
 have hca := hide (pick_n m.a ln ha1 ha2 (by omega) (by omega) (w.alloc (.cells #[.int .i64 m.k, .int .i64 m.a, .int .i64 m.b, .bool zk.s, .slice zk.a zk.l zk.c, .bool zd.s, .slice zd.a zd.l zd.c] 40)))
 rw [hja] at hca
 clear y0 hs
 go_enter Tryz.func66, Tryz.ntmps66
 go_upto_region 1 with (fail)
 generalize w.alloc (.cells #[.int .i64 m.k, .int .i64 m.a, .int .i64 m.b, .bool zk.s, .slice zk.a zk.l zk.c, .bool zd.s, .slice zd.a zd.l zd.c] 40) = w0 at *
 generalize hbw : w.heap.size = bt at *
 replace hbw := hide hbw
 have haI : (ja : Int) < (ln : Int) := hpa
 go_wp2_with fail
 refine hca.out.mono ?_
 rintro e w1 ⟨rfl, k1⟩
 have kb := hide k1
 have hcb := hide (pick_n m.b ln hb1 hb2 (by omega) (by omega) w1)
 rw [hjb] at hcb
 have q1' := (k1.cell (p := ⟨bt, 1, none⟩) hbt).trans q1
 have q2' := (k1.cell (p := ⟨bt, 2, none⟩) hbt).trans q2
 have l0' := (k1.cell (p := ⟨lb, ja, none⟩) hlb).trans l0
 clear hca k1
 go_wp2_with fail
 have hbI : (jb : Int) < (ln : Int) := hpb
 refine hcb.out.mono ?_
 rintro e w2 ⟨rfl, k2⟩
 have kc := hide (grow_step k2 kb.out)
 have hck := hide (pick_n m.k 8 hk1 hk2 (by decide) (by decide) w2)
 rw [hkk.out] at hck
 have q0' := (kc.out.cell (p := ⟨bt, 0, none⟩) hbt).trans q0
 have l1' := (kc.out.cell (p := ⟨lb, jb, none⟩) hlb).trans l1
 clear hcb k2 q1' q2' l0' q0 q1 q2
 go_wp2_with fail
 refine hck.out.mono ?_
 rintro e w3 ⟨rfl, k3⟩
 have kd := hide (grow_step k3 kc.out)
 have q3' := (kd.out.cell (p := ⟨bt, 3, none⟩) hbt).trans q3
 have q4' := (kd.out.cell (p := ⟨bt, 4, none⟩) hbt).trans q4
 have q5' := (kd.out.cell (p := ⟨bt, 5, none⟩) hbt).trans q5
 have q6' := (kd.out.cell (p := ⟨bt, 6, none⟩) hbt).trans q6
 have hA3 := hide (hA.out.below kd.out)
 have hyA3 := hide (hyA.out.below kd.out)
 have hF3 : Hid (F ≤ w3.heap.size) := hide (by have h1 := kd.out.size; omega)
 have hB3 := hide (hB.out.below kd.out)
 have hk3 := hide (hk.out.below kd.out)
 have hd3 := hide (hd.out.below kd.out)
 clear hck k3 q0' l1' l0 l1 q3 q4 q5 q6
 have hkv : kk = 0 ∨ kk = 1 ∨ kk = 2 ∨ kk = 3 ∨ kk = 4 ∨ kk = 5 ∨ kk = 6 ∨ kk = 7 := by omega
 have kfin := hide (fun (u : World) (ku : Below w3.heap.size w3 u) => (show Below w.heap.size w u by rw [hbw.out]; exact b0.out.trans ((grow_step ku kd.out).mono (Nat.le_of_lt hbt))))
 rcases hkv with rfl | rfl | rfl | rfl | rfl | rfl | rfl | rfl
 ·have hc := hide (above_y hk3.out (by omega))
  go_wp2_with fail
  refine hc.out.mono ?_
  rintro e w4 ⟨b, D, rfl, hps, hyo, k4, e1, e2, e3⟩
  have hR := hide ((hDR.out 0 D).2 ⟨rfl, e1, e2, e3⟩)
  have hcl : D.cs.length ≤ 2 * N := by rw [e2]; simp only [List.length_cons, List.length_nil]; omega
  have hps1 := hide hps
  have hyo1 := hide (hyo.mono hF3.out)
  have kf := hide (kfin.out w4 k4)
  clear hc hps hyo kfin q3' q4' q5' q6'
  go_wp2
  exact bodyPost_ret (results_tmp2 rfl _ _ _) rfl ⟨kf.out, .inr ⟨b, D, rfl, hps1.out, hyo1.out, hcl, hR.out⟩⟩
 ·have hc := hide (above_y hk3.out (by omega))
  go_wp2_with fail
  refine hc.out.mono ?_
  rintro e w4 ⟨b, D, rfl, hps, hyo, k4, e1, e2, e3⟩
  have hR := hide ((hDR.out 0 D).2 ⟨rfl, e1, e2, e3⟩)
  have hcl : D.cs.length ≤ 2 * N := by rw [e2]; simp only [List.length_cons, List.length_nil]; omega
  have hps1 := hide hps
  have hyo1 := hide (hyo.mono hF3.out)
  have kf := hide (kfin.out w4 k4)
  clear hc hps hyo kfin q3' q4' q5' q6'
  go_wp2
  exact bodyPost_ret (results_tmp2 rfl _ _ _) rfl ⟨kf.out, .inr ⟨b, D, rfl, hps1.out, hyo1.out, hcl, hR.out⟩⟩
 ·have hc := hide (class_y (z := zd) (y := zk) ⟨hd3.out, by omega⟩ ⟨hk3.out, by omega⟩)
  go_wp2_with fail
  refine hc.out.mono ?_
  rintro e w4 ⟨k4, ⟨he, rfl⟩ | ⟨he, b, D, rfl, hps, hyo, e1, e2, e3, e4⟩⟩
  ·have hR := hide ((hDR.out _ A).2 ⟨rfl, fun h => absurd h he⟩)
   have kf := hide (kfin.out w4 k4)
   have he1 := hide he
   clear hc he kfin q3' q4' q5' q6'
   go_wp2
   exact bodyPost_ret (results_tmp2 rfl _ _ _) rfl ⟨kf.out, .inl ⟨_, A, he1.out, rfl, hR.out⟩⟩
  ·have hR := hide ((hDR.out 0 D).2 ⟨he.symm, fun _ => e4⟩)
   have hcl : D.cs.length ≤ 2 * N := by omega
   have hps1 := hide hps
   have hyo1 := hide (hyo.mono hF3.out)
   have kf := hide (kfin.out w4 k4)
   clear hc hps hyo kfin he e1 e2 e3 e4 q3' q4' q5' q6'
   go_wp2
   exact bodyPost_ret (results_tmp2 rfl _ _ _) rfl ⟨kf.out, .inr ⟨b, D, rfl, hps1.out, hyo1.out, hcl, hR.out⟩⟩
 ·have hc := hide (class_y (z := zd) (y := zk) ⟨hd3.out, by omega⟩ ⟨hk3.out, by omega⟩)
  go_wp2_with fail
  refine hc.out.mono ?_
  rintro e w4 ⟨k4, ⟨he, rfl⟩ | ⟨he, b, D, rfl, hps, hyo, e1, e2, e3, e4⟩⟩
  ·have hR := hide ((hDR.out _ A).2 ⟨rfl, fun h => absurd h he⟩)
   have kf := hide (kfin.out w4 k4)
   have he1 := hide he
   clear hc he kfin q3' q4' q5' q6'
   go_wp2
   exact bodyPost_ret (results_tmp2 rfl _ _ _) rfl ⟨kf.out, .inl ⟨_, A, he1.out, rfl, hR.out⟩⟩
  ·have hR := hide ((hDR.out 0 D).2 ⟨he.symm, fun _ => e4⟩)
   have hcl : D.cs.length ≤ 2 * N := by omega
   have hps1 := hide hps
   have hyo1 := hide (hyo.mono hF3.out)
   have kf := hide (kfin.out w4 k4)
   clear hc hps hyo kfin he e1 e2 e3 e4 q3' q4' q5' q6'
   go_wp2
   exact bodyPost_ret (results_tmp2 rfl _ _ _) rfl ⟨kf.out, .inr ⟨b, D, rfl, hps1.out, hyo1.out, hcl, hR.out⟩⟩
 ·have hc := hide (rest_y hA3.out hyA3.out hF3.out (by omega))
  go_wp2_with fail
  refine hc.out.mono ?_
  rintro e w4 ⟨b, D, rfl, hps, hyo, k4, e1, e2, e3⟩
  have hR := hide ((hDR.out 0 D).2 ⟨rfl, e1, e2, e3⟩)
  have hcl : D.cs.length ≤ 2 * N := by rw [e2]; omega
  have hps1 := hide hps
  have hyo1 := hide (hyo.mono (Nat.le_refl _))
  have kf := hide (kfin.out w4 k4)
  clear hc hps hyo kfin q3' q4' q5' q6'
  go_wp2
  exact bodyPost_ret (results_tmp2 rfl _ _ _) rfl ⟨kf.out, .inr ⟨b, D, rfl, hps1.out, hyo1.out, hcl, hR.out⟩⟩
 ·have hc := hide (meet_y hA3.out hB3.out (by omega) (by omega))
  go_wp2_with fail
  refine hc.out.mono ?_
  rintro e w4 ⟨k4, ⟨he, rfl⟩ | ⟨he, b, D, rfl, hps, hyo, e1, e2, e3, e4⟩⟩
  ·have hR := hide ((hDR.out _ A).2 ⟨rfl, fun h => absurd h he⟩)
   have kf := hide (kfin.out w4 k4)
   have he1 := hide he
   clear hc he kfin q3' q4' q5' q6'
   go_wp2
   exact bodyPost_ret (results_tmp2 rfl _ _ _) rfl ⟨kf.out, .inl ⟨_, A, he1.out, rfl, hR.out⟩⟩
  ·have hR := hide ((hDR.out 0 D).2 ⟨he.symm, fun _ => ⟨e1, e3, e4⟩⟩)
   have hcl : D.cs.length ≤ 2 * N := by omega
   have hps1 := hide hps
   have hyo1 := hide (hyo.mono hF3.out)
   have kf := hide (kfin.out w4 k4)
   clear hc hps hyo kfin he e1 e2 e3 e4 q3' q4' q5' q6'
   go_wp2
   exact bodyPost_ret (results_tmp2 rfl _ _ _) rfl ⟨kf.out, .inr ⟨b, D, rfl, hps1.out, hyo1.out, hcl, hR.out⟩⟩
 ·have hc := hide (meet_y hA3.out hB3.out (by omega) (by omega))
  go_wp2_with fail
  refine hc.out.mono ?_
  rintro e w4 ⟨k4, ⟨he, rfl⟩ | ⟨he, b, D, rfl, hps, hyo, e1, e2, e3, e4⟩⟩
  ·have hR := hide ((hDR.out _ A).2 ⟨rfl, fun h => absurd h he⟩)
   have kf := hide (kfin.out w4 k4)
   have he1 := hide he
   clear hc he kfin q3' q4' q5' q6'
   go_wp2
   exact bodyPost_ret (results_tmp2 rfl _ _ _) rfl ⟨kf.out, .inl ⟨_, A, he1.out, rfl, hR.out⟩⟩
  ·have hR := hide ((hDR.out 0 D).2 ⟨he.symm, fun _ => ⟨e1, e3, e4⟩⟩)
   have hcl : D.cs.length ≤ 2 * N := by omega
   have hps1 := hide hps
   have hyo1 := hide (hyo.mono hF3.out)
   have kf := hide (kfin.out w4 k4)
   clear hc hps hyo kfin he e1 e2 e3 e4 q3' q4' q5' q6'
   go_wp2
   exact bodyPost_ret (results_tmp2 rfl _ _ _) rfl ⟨kf.out, .inr ⟨b, D, rfl, hps1.out, hyo1.out, hcl, hR.out⟩⟩
 ·have hc := hide (join_y hA3.out hB3.out (by omega) (by omega))
  go_wp2_with fail
  refine hc.out.mono ?_
  rintro e w4 ⟨k4, ⟨he, rfl⟩ | ⟨he, b, D, rfl, hps, hyo, e1, e2, e3, e4⟩⟩
  ·have hR := hide ((hDR.out _ A).2 ⟨rfl, fun h => absurd h he⟩)
   have kf := hide (kfin.out w4 k4)
   have he1 := hide he
   clear hc he kfin q3' q4' q5' q6'
   go_wp2
   exact bodyPost_ret (results_tmp2 rfl _ _ _) rfl ⟨kf.out, .inl ⟨_, A, he1.out, rfl, hR.out⟩⟩
  ·have hR := hide ((hDR.out 0 D).2 ⟨he.symm, fun _ => ⟨e1, e3, e4⟩⟩)
   have hcl : D.cs.length ≤ 2 * N := by omega
   have hps1 := hide hps
   have hyo1 := hide (hyo.mono hF3.out)
   have kf := hide (kfin.out w4 k4)
   clear hc hps hyo kfin he e1 e2 e3 e4 q3' q4' q5' q6'
   go_wp2
   exact bodyPost_ret (results_tmp2 rfl _ _ _) rfl ⟨kf.out, .inr ⟨b, D, rfl, hps1.out, hyo1.out, hcl, hR.out⟩⟩
set_option maxRecDepth 100000 in
set_option maxHeartbeats 6400000 in
theorem sets19_y {w : World} {la : Option Addr} {ln lc : Nat} {R : List MkD} (hR : MLs w la ln R) (hn : ln ≤ 1048576) :
  Calls Tryz.prog 18 #[.slice la ln lc] w fun e w' => ∃ a n c Ds, e = .returned (.slice a n c) ∧ a ≠ none ∧ SY w.heap.size w' a n Ds ∧ 1 ≤ n ∧ n ≤ 13 ∧ (∀ D ∈ Ds, D.cs.length ≤ 4096) ∧ Blt R (min ln 12) Ds ∧ Below w.heap.size w w' := by
 have hno := hide (none_y w)
 replace hR := hide hR
 go_enter Tryz.func18, Tryz.ntmps18
 go_wp2_with fail
 refine hno.out.mono ?_
 rintro e w1 ⟨b0, D0, rfl, hps, hyo, k1, hm, hp, hc⟩
 have b1 := below_alloc w1 (.cells #[.pointer (some ⟨b0, 0, none⟩)] 25)
 have o1 := hide (owz_lit (enc := encp) (zc := (Value.pointer none).cells) (e := 25) encp_len w1 [b0] 1 rfl (by decide) #[.pointer (some ⟨b0, 0, none⟩)] rfl)
 have p1 := hide (py_one (hps.below b1) (hyo.below b1))
 have k2 := hide (grow_step b1 k1)
 have hB : Hid (Blt R 0 [D0]) := hide ⟨D0, rfl, hp, hc, hm⟩
 have hcs : Hid (∀ D ∈ [D0], D.cs.length ≤ 2 ^ 0) := hide fun D h => by rw [List.mem_singleton.1 h, hc]; exact Nat.zero_le _
 have hob : Hid (OwP _ w.heap.size _ 1 [b0]) := hide ⟨⟨o1.out.own.1, .inr ⟨w1.heap.size, 1, _, rfl, k1.size, heap_alloc_new w1 _, by decide, by decide, rfl, rfl⟩⟩, o1.out.sp, o1.out.ne⟩
 clear hno b1 hps hyo k1 hm hp hc o1
 go_wp2_with fail
 go_loopw [3, 4] (fun vo vi wr => ∃ (i n g c : Nat) (q : List Nat) (Ds : List PD), i ≤ 12 ∧ i ≤ ln ∧ vi = .int .i64 i ∧ vo = .slice (some ⟨g, 0, none⟩) n c ∧ OwP wr w.heap.size (.slice (some ⟨g, 0, none⟩) n c) n q ∧ Py w.heap.size wr q Ds ∧ 1 ≤ n ∧ n ≤ i + 1 ∧ (∀ D ∈ Ds, D.cs.length ≤ 2 ^ i) ∧ Blt R i Ds ∧ Below w.heap.size w wr) (fun _ vi _ => 12 - (intOf vi).toNat)
 case atStart => exact ⟨0, 1, _, _, [b0], [D0], by decide, Nat.zero_le _, rfl, rfl, hob.out, p1.out, by decide, by decide, hcs.out, hB.out, k2.out⟩
 case round =>
  clear hob p1 hcs hB k2
  obtain ⟨i, n, g, c, q, Ds, hi12, hil, rfl, rfl, ho, hp, hn1, hni, hcs, hbl2, kr⟩ := hrel
  by_cases hil2 : i < ln
  ·by_cases hi2 : i < 12
   ·obtain ⟨m, rfl⟩ : ∃ m, n = m + 1 := ⟨n - 1, by omega⟩
    obtain ⟨bl, hbl⟩ := owp_last ho hn1
    rw [Nat.add_sub_cancel] at hbl
    obtain ⟨a', c', he, hsl⟩ := owp_sy ho hp
    cases he
    obtain ⟨mb, mo, zk, zd, rfl, hmb, mc⟩ := (hR.out.below kr).get hil2
    obtain ⟨x, hx⟩ : ∃ x, R.getD i ⟨0, 0, 0, 0, 0⟩ = x := ⟨_, rfl⟩
    rw [hx] at mc
    have hpw := pow_two_le hi12
    have hdo := hide (do19_y (lc := c) (N := 2 ^ i) mc.nk mc.kl mc.nd mc.dl mc.ik mc.ia mc.ib hsl kr.size hn1 (by omega) hpw.1 (by omega) hcs)
    have e0 := mc.c0
    have e1 := mc.c1
    have e2 := mc.c2
    have e3 := mc.c3
    have e4 := mc.c4
    have e5 := mc.c5
    have e6 := mc.c6
    replace hx := hide hx
    replace ho := hide ho
    replace hp := hide hp
    replace hcs := hide hcs
    replace hbl2 := hide hbl2
    replace kr := hide kr
    clear hsl mc hpw
    go_wp2_with fail
    refine hdo.out.mono ?_
    rintro e w4 ⟨k4, ⟨err, D, he, rfl, hdr⟩ | ⟨b, D, rfl, hps, hyo, hcl, hdr⟩⟩
    ·have hne : (err == 0) = false := by rw [beq_eq_false_iff_ne]; exact he
     have hb5 : Hid (Blt R (i + 1) Ds) := hide ⟨Ds, hbl2.out, .inl ⟨err, D, he, by rw [hx.out]; exact hdr, rfl⟩⟩
     have hc5 : Hid (∀ D ∈ Ds, D.cs.length ≤ 2 ^ (i + 1)) := hide fun D h => Nat.le_trans (hcs.out D h) (Nat.pow_le_pow_right (by decide) (Nat.le_succ i))
     have ho5 := hide (ho.out.below k4)
     have hp5 := hide (hp.out.below k4)
     have k5 := hide (grow_step k4 kr.out)
     clear hdo he hdr k4 hbl e0 e1 e2 e3 e4 e5 e6 ho hp hcs hbl2 kr hx
     go_wp2
     go_roundw
     case measure => simp [intOf]; omega
     case rel => exact ⟨i + 1, m + 1, g, _, q, Ds, by omega, by omega, by go_num, rfl, ho5.out, hp5.out, hn1, by omega, hc5.out, hb5.out, k5.out⟩
    ·have hb5 : Hid (Blt R (i + 1) (Ds ++ [D])) := hide ⟨Ds, hbl2.out, .inr ⟨D, by rw [hx.out]; exact hdr, rfl⟩⟩
     have hc5 : Hid (∀ E ∈ Ds ++ [D], E.cs.length ≤ 2 ^ (i + 1)) := hide fun E h => by
      rcases List.mem_append.1 h with h | h
      ·exact Nat.le_trans (hcs.out E h) (Nat.pow_le_pow_right (by decide) (Nat.le_succ i))
      ·rw [List.mem_singleton.1 h, Nat.pow_succ, Nat.mul_comm]; exact hcl
     have b5 := below_alloc w4 (.cells #[.pointer (some ⟨b, 0, none⟩)] 25)
     have ho5 := hide ((ho.out.below k4).below b5)
     have hp5 := hide (((hp.out.below k4).app (py_one hps hyo)).below b5)
     have k5 := hide (grow_step b5 (grow_step k4 kr.out))
     have s5 := hide (onep_src (w := w4) (b := b))
     clear hdo hdr k4 hbl e0 e1 e2 e3 e4 e5 e6 ho hp hcs hbl2 kr hx b5 hps hyo hcl
     go_wp2_with (refine appz_wp (m := 1) Tryz.underlying27 infoP rfl (by decide) (by decide) encp_len encp_one rfl _ _ rfl rfl ho5.out [b] rfl (.inr ⟨_, _, rfl, s5.out⟩) (by omega) k5.out.size ?_)
     intro v6 w6 o6 g6 _
     have k6 := hide (owp_step ho5.out g6 k5.out k5.out.size)
     have p6 := hide (hp5.out.grown ho5.out g6)
     obtain ⟨-, g', c', rfl⟩ := owp_form o6
     replace o6 := hide o6
     clear ho5 hp5 k5 s5 g6
     go_wp2
     go_roundw
     case measure => simp [intOf]; omega
     case rel => exact ⟨i + 1, m + 1 + 1, g', c', _, _, by omega, by omega, by go_num, rfl, o6.out, p6.out, by omega, by omega, hc5.out, hb5.out, k6.out⟩
   ·have hi2' : i = 12 := by omega
    obtain ⟨m, rfl⟩ : ∃ m, n = m + 1 := ⟨n - 1, by omega⟩
    obtain ⟨bl, hbl⟩ := owp_last ho hn1
    rw [Nat.add_sub_cancel] at hbl
    obtain ⟨a', c', he, hsl⟩ := owp_sy ho hp
    cases he
    have hsl1 := hide hsl
    have hk1 := hide kr
    have hbt : Hid (Blt R (min ln 12) Ds) := hide (by rw [show min ln 12 = i by omega]; exact hbl2)
    have hc1 : Hid (∀ D ∈ Ds, D.cs.length ≤ 4096) := hide fun D h => Nat.le_trans (hcs D h) (pow_two_le hi12).2
    clear ho hp hsl hcs hbl2 kr
    go_wp2
    exact bodyPost_ret (results_tmp rfl _ _ _) rfl ⟨_, _, _, Ds, rfl, (fun h => by cases h), hsl1.out, hn1, by omega, hc1.out, hbt.out, hk1.out⟩
  ·have hi2' : i = ln := by omega
   obtain ⟨m, rfl⟩ : ∃ m, n = m + 1 := ⟨n - 1, by omega⟩
   obtain ⟨bl, hbl⟩ := owp_last ho hn1
   rw [Nat.add_sub_cancel] at hbl
   obtain ⟨a', c', he, hsl⟩ := owp_sy ho hp
   cases he
   have hsl1 := hide hsl
   have hk1 := hide kr
   have hbt : Hid (Blt R (min ln 12) Ds) := hide (by rw [show min ln 12 = i by omega]; exact hbl2)
   have hc1 : Hid (∀ D ∈ Ds, D.cs.length ≤ 4096) := hide fun D h => Nat.le_trans (hcs D h) (pow_two_le hi12).2
   clear ho hp hsl hcs hbl2 kr
   go_wp2
   exact bodyPost_ret (results_tmp rfl _ _ _) rfl ⟨_, _, _, Ds, rfl, (fun h => by cases h), hsl1.out, hn1, by omega, hc1.out, hbt.out, hk1.out⟩
end Pd
end Go.Proofs.YtfannonacamhhaaGreat
