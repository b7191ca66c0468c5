/-
 Several texts in one: Pe7, Pe8, Pe9, Pf0, Pf3, Pf4, Pg0, Pg1, Pg2, Pg3, Pg4.
-/
import Derived.Test.YtfannonacamhhaaGreatCpt20
import Derived.Laws.OwnMore
import Derived.Deep.DeepCutAuto
import Derived.Sort.CutIn
import Derived.Test.YtfannonacamhhaaGreatCpt15
import Derived.Test.YtfannonacamhhaaGreatCpt09
import Derived.Test.YtfannonacamhhaaGreatCpt14
namespace Go.Proofs.YtfannonacamhhaaGreat
open Go.RowKit Go.Sort
namespace Pd

/-- numbers in a slice that a call has made, as they are put behind others -/
def Src (w : World) (a : Option Addr) (n c : Nat) (q : List ZV) (xs : List Int) : Prop :=
 q.length = n ∧ Prg w q xs ∧ ((a = none ∧ n = 0 ∧ c = 0) ∨ ∃ b, a = some ⟨b, 0, none⟩ ∧ b < w.heap.size ∧ ∀ j u, (encL ZV.enc q)[j]? = some u → w.cell? ⟨b, j, none⟩ = some u)
theorem src_own {w : World} {base n : Nat} {v : Value} {q : List ZV} {xs : List Int} (h : w.ownsRow base 38 2 v n (encL ZV.enc q)) (hq : Prg w q xs) : ∃ a c, v = .slice a n c ∧ Src w a n c q xs := by
 have h1 := h.1
 rw [encL_length zv_len] at h1
 have hn : q.length = n := Nat.eq_of_mul_eq_mul_right (by decide) h1
 rcases h.2 with ⟨rfl, rfl⟩ | ⟨g, cap, cur, rfl, hb, hg, hc, hm, hs, ht⟩
 ·exact ⟨none, 0, rfl, hn, hq, .inl ⟨rfl, rfl, rfl⟩⟩
 ·refine ⟨_, cap, rfl, hn, hq, .inr ⟨g, rfl, (Array.getElem?_eq_some_iff.1 hg).1, fun j u hu => ?_⟩⟩
  have hj : j < n * 2 := by
   have := (List.getElem?_eq_some_iff.1 hu).1
   rw [encL_length zv_len, hn] at this
   exact this
  rw [cell_of_row w g j _ _ (0, 0) hg, ← hu, ← ht, List.getElem?_take, if_pos hj, Array.getElem?_toList]
/-- append of several numbers -/
theorem runN {w : World} {base n m : Nat} {v : Value} {q r : List ZV} {a : Option Addr} {c : Nat} {xs : List Int} (h : w.ownsRow base 38 2 v n (encL ZV.enc q)) (hs : Src w a m c r xs) (h63 : n + m ≤ 1073741824) (hbase : base ≤ w.heap.size) (ty : TypeId) :
  ∃ v' w', (Builtin.append_ #[23, 23] ty #[v, .slice a m c]).run Tryz.prog w = .ok v' w' ∧ w'.ownsRow base 38 2 v' (n + m) (encL ZV.enc (q ++ r)) ∧ w.grownBy w' v.ownBlock ∧ (v'.ownBlock = v.ownBlock ∨ v'.ownBlock = some w.heap.size) := by
 obtain ⟨i0, hi, hz0, hz1, hz2⟩ := info_parts infoI
 obtain ⟨hrl, -, ⟨rfl, rfl, rfl⟩ | ⟨b, rfl, hb, hc⟩⟩ := hs
 ·obtain rfl := List.length_eq_zero_iff.1 hrl
  exact ⟨v, w, run_append_owned_none (P := Tryz.prog) (w := w) base 23 ty 38 i0 2 Tryz.underlying23 hi v n _ h, by simpa using h, ⟨rfl, rfl, rfl, Nat.le_refl _, fun _ _ _ => rfl⟩, .inl rfl⟩
 ·have hmul : (n + m) * 32 ≤ 1073741824 * 32 := Nat.mul_le_mul h63 (Nat.le_refl _)
  obtain ⟨v', w', h1, h2, h3, -, h5⟩ := run_append_own_at (P := Tryz.prog) w base 23 ty 38 i0 _ 2 32 Tryz.underlying23 hi hz0 hz1 hz2 rfl (by decide) v n (encL ZV.enc q) h ⟨b, 0, none⟩ m c (encL ZV.enc r) (by rw [encL_length zv_len, hrl])
   (fun j u hu => by rw [Addr.add_lit, Nat.zero_add]; exact hc j u hu) (fun u hu => by
    obtain ⟨z, -, hz⟩ := List.mem_flatMap.1 hu
    exact zv_one z u hz) (by unfold maxLen; omega) (by omega) hbase
  exact ⟨v', w', h1, by rw [encL_append]; exact h2, h3, h5⟩
theorem zb_own {w w' : World} {base n b : Nat} {e : TypeId} {sz : Nat} {v : Value} {xs : List Value} {s : Bool} {a : Option Addr} {l c : Nat} (hg : w.grownBy w' v.ownBlock) (ho : w.ownsRow base e sz v n xs) (y : ZB w b s a l c) (hb : b < base) : ZB w' b s a l c :=
 (hg.block b y.lt fun e => by have := (own_blk ho _ e.symm).1; omega).trans y
set_option maxRecDepth 100000 in
set_option maxHeartbeats 6400000 in
theorem from_n {w : World} {pa : Option Addr} {n pc : Nat} {P : List Nat} {z : ZV} {x : Int} (hP : NLs w pa n P) (hn : n ≤ 4096) (hp : ∀ k ∈ P, k < 4096) (hz : Zm w z.s z.a z.l z.c x) (hl : z.l ≤ 8589934591) :
  Calls Tryz.prog 123 #[.agg #[.bool z.s, .slice z.a z.l z.c], .slice pa n pc] w fun e w' => ∃ a c q, e = .returned (.slice a n c) ∧ Src w' a n c q (shf x P) ∧ Below w.heap.size w w' := by
 have b0 := below_alloc w (.cells #[.bool z.s, .slice z.a z.l z.c] 38)
 have y0 := zb_new w z.s z.a z.l z.c
 have hP0 := hide (hP.below b0)
 have hz0 := hide (hz.below b0)
 have hsz : (w.alloc (.cells #[.bool z.s, .slice z.a z.l z.c] 38)).heap.size = w.heap.size + 1 := by simp
 replace b0 := hide b0
 replace y0 := hide y0
 have hPl : Hid (P.length = n) := hide hP.1
 clear hP hz
 go_enter Tryz.func123, Tryz.ntmps123
 go_upto_region 1 with (fail)
 generalize w.alloc (.cells #[.bool z.s, .slice z.a z.l z.c] 38) = w0 at *
 obtain ⟨bx, hbx⟩ : ∃ bx, w.heap.size = bx := ⟨_, rfl⟩
 rw [hbx] at y0 hsz ⊢
 have hbw : Hid (w.heap.size = bx) := hide hbx
 clear hbx
 go_wp2_with fail
 go_loopw [5, 10] (fun vl vi wr => ∃ (i : Nat) (la : Option Addr) (lc : Nat) (q : List ZV), i ≤ n ∧ vi = .int .i64 i ∧ vl = .slice la i lc ∧ Hid (wr.ownsRow (bx + 1) 38 2 (.slice la i lc) i (encL ZV.enc q)) ∧ Hid (Prg wr q (shf x (P.take i))) ∧ Hid (ZB wr bx z.s z.a z.l z.c) ∧ Hid (Below w.heap.size w wr) ∧ Hid (Below w0.heap.size w0 wr)) (fun _ vi _ => n - (intOf vi).toNat)
 case atStart => exact ⟨0, none, 0, [], Nat.zero_le _, rfl, rfl, hide (World.ownsRow_nil _ _ _ _), hide (by simpa [shf] using prg_nil _), y0, b0, hide (Below.refl _ _)⟩
 case round =>
  clear y0
  obtain ⟨i, la, lc, q, hi, rfl, rfl, ho, hq, yx, kr, k0⟩ := hrel
  by_cases hin : i < n
  ·obtain ⟨pb, hpl, rfl, hpb, d0⟩ := (hP0.out.below k0.out).get hin
   have hkl := hp _ (List.getElem_mem hpl)
   have htk : Hid (shf x (P.take (i + 1)) = shf x (P.take i) ++ [x + (P[i] : Nat)]) := hide (by rw [List.take_succ_eq_append_getElem hpl, shf_app]; rfl)
   generalize P[i] = k at *
   have hi3 : (i : Int) < (n : Int) := by omega
   have hlt1 : decide ((i : Int) < (n : Int)) = true := by rw [decide_eq_true_eq]; exact hi3
   go_upto_region 5 with (fail)
   refine wp_region_held_drew (S := (fun w' => w'.cell? ⟨bx, 0, none⟩ = some (.bool z.s) ∧ w'.cell? ⟨bx, 1, none⟩ = some (.slice z.a z.l z.c))) (by kernel_rfl) (⟨(yx.out.below (grow_drew (Below.refl _ _))).c0, (yx.out.below (grow_drew (Below.refl _ _))).c1⟩) (fun hHeld => ?_)
   show wpAnyH _ _ _ _ _ 8 _ _ _
   have kW := grow_drew (Below.refl wr.heap.size wr)
   have yW := yx.out.below kW
   have oW := own_below ho.out kW
   have qW := hq.out.below kW
   have zW := (hz0.out.below k0.out).below kW
   generalize wr.drew = wQ at *
   refine wpAnyH_take (i := 0) (oi := ⟨some 14, _, _, _, _, _⟩) (v := ?_) rfl (by decide +kernel) (by decide +kernel) (by decide +kernel) (fun _ _ _ h => h) (Or.inl ⟨by rfl, ?_⟩) (by assumption) ?_
   rotate_left
   ·intro wq hSw; (try dsimp only at hSw); go_simp; (try with_reducible rfl)
   (try simp only [Act.put, List.setIfInBounds_toArray, List.set_cons_zero, List.set_cons_succ])
   refine wpAnyH_take (i := 1) (oi := ⟨some 15, _, _, _, _, _⟩) (v := ?_) rfl (by decide +kernel) (by decide +kernel) (by decide +kernel) (fun _ _ _ h => h) (Or.inl ⟨by rfl, ?_⟩) (by assumption) ?_
   rotate_left
   ·intro wq hSw; (try dsimp only at hSw); go_simp; (try with_reducible rfl)
   (try simp only [Act.put, List.setIfInBounds_toArray, List.set_cons_zero, List.set_cons_succ])
   refine wpAnyH_take (i := 2) (oi := ⟨some 16, _, _, _, _, _⟩) (v := ?_) rfl (by decide +kernel) (by decide +kernel) (by decide +kernel) (fun _ _ _ h => h) (Or.inl ⟨by rfl, ?_⟩) (by assumption) ?_
   rotate_left
   ·intro wq hSw; (try dsimp only at hSw); go_simp; (try with_reducible rfl)
   (try simp only [Act.put, List.setIfInBounds_toArray, List.set_cons_zero, List.set_cons_succ])
   refine wpAnyH_ready (rs := [3]) (by decide +kernel) (by simp) ?_
   refine AllReadyH.cons (i := 3) (o := ⟨some 17, _, _, _, _, _⟩) rfl (fun K hK => ?_) AllReadyH.nil
   go_simp
   go_at_call 67; refine Calls.mono (Fresh.zof_n (B := 0) (k : Int) (by omega) (by omega) _ (Nat.zero_le _)) ?_; rintro e wA ⟨sA, aA, lA, cA, rfl, hzA, kA, hlA⟩
   have yW := yW.below kA
   have oW := own_below oW kA
   have qW := qW.below kA
   have zW := zW.below kA
   try have hzB := hzB.below kA
   have kW := grow_step kA kW
   try go_wp2_with fail
   refine hK.out _ _ ?_ ?_
   ·first | with_reducible exact trivial | ((try dsimp only); exact ⟨yW.c0, yW.c1⟩)
   clear hK K hHeld; intro hHeld
   (try simp only [Act.put, List.setIfInBounds_toArray, List.set_cons_zero, List.set_cons_succ])
   refine wpAnyH_ready (rs := [4]) (by decide +kernel) (by simp) ?_
   refine AllReadyH.cons (i := 4) (o := ⟨some 18, _, _, _, _, _⟩) rfl (fun K hK => ?_) AllReadyH.nil
   go_simp
   go_at_call 69; refine Calls.mono (Fresh.zadd_n (B := 0) (Fresh.zm_of zW (Nat.zero_le _)) (Fresh.zm_of hzA.zn.zm (Nat.zero_le _)) (by omega) (by omega)) ?_; rintro e wB ⟨sB, aB, lB, cB, rfl, hzB, kB, hlB⟩
   have yW := yW.below kB
   have oW := own_below oW kB
   have qW := qW.below kB
   have zW := zW.below kB
   try have hzA := hzA.below kB
   have kW := grow_step kB kW
   try go_wp2_with fail
   refine hK.out _ _ ?_ ?_
   ·first | with_reducible exact trivial | ((try dsimp only); exact ⟨yW.c0, yW.c1⟩)
   clear hK K hHeld; intro hHeld
   (try simp only [Act.put, List.setIfInBounds_toArray, List.set_cons_zero, List.set_cons_succ])
   refine wpAnyH_ready (rs := [5]) (by decide +kernel) (by simp) ?_
   refine AllReadyH.cons (i := 5) (o := ⟨some 19, _, _, _, _, _⟩) rfl (fun K hK => ?_) AllReadyH.nil
   obtain ⟨wL, b6, eL, eb6, cN, hb6, kL, -⟩ := al_b kW (.cells #[.bool sB, .slice aB lB cB] 38)
   replace cN : ZB wL b6 sB aB lB cB := cN
   have yW := yW.below kL
   have oW := own_below oW kL
   have qW := qW.below kL
   have zW := zW.below kL
   try have hzA := hzA.below kL
   try have hzB := hzB.below kL
   have kW := grow_step kL kW
   go_simp
   rw [eL.out]
   (try simp only [eb6.out])
   refine hK.out _ _ ?_ ?_
   ·first | with_reducible exact trivial | ((try dsimp only); exact ⟨yW.c0, yW.c1⟩)
   clear hK K hHeld; intro hHeld
   (try simp only [Act.put, List.setIfInBounds_toArray, List.set_cons_zero, List.set_cons_succ])
   refine wpAnyH_ready (rs := [6]) (by decide +kernel) (by simp) ?_
   refine AllReadyH.cons (i := 6) (o := ⟨some 20, _, _, _, _, _⟩) rfl (fun K hK => ?_) AllReadyH.nil
   have hbs : bx + 1 ≤ wL.heap.size := by have := yW.lt; omega
   refine anyH_append rfl _ _ 23 rfl _ _ rfl rfl _ (runI oW ⟨sB, aB, lB, cB⟩ b6 1 cN (by omega) hbs _) ?_
   rintro v7 w7 ⟨o7, g7, -⟩
   have hzg : Zg wL ⟨sB, aB, lB, cB⟩ (x + (k : Int)) := ⟨hzB, by show lB ≤ _; omega⟩
   have qW := (qW.app (prg_one hzg)).blk g7.size (u32_grown g7 (fun g e => (own_blk oW g e).2) (by decide))
   have yW := zb_own g7 oW yW (by omega)
   have kF := below_grown (grow_step kW kr.out) g7 (fun g e => by have := (own_blk oW g e).1; have := hbw.out; omega) (grow_step kW kr.out).size
   have kF0 := below_grown (grow_step kW k0.out) g7 (fun g e => by have := (own_blk oW g e).1; omega) (grow_step kW k0.out).size
   obtain ⟨-, la7, lc7, rfl, -⟩ := own_any (by decide) zv_len o7
   clear oW kW cN zW hzA hzB g7
   refine hK.out _ _ ?_ ?_
   ·first | with_reducible exact trivial | ((try dsimp only); exact ⟨yW.c0, yW.c1⟩)
   clear hK K hHeld; intro hHeld
   (try simp only [Act.put, List.setIfInBounds_toArray, List.set_cons_zero, List.set_cons_succ])
   refine wpAnyH_take (i := 7) (oi := ⟨some 5, _, _, _, _, _⟩) (v := ?_) rfl (by decide +kernel) (by decide +kernel) (by decide +kernel) (fun _ _ _ h => h) (Or.inl ⟨by rfl, ?_⟩) (by assumption) ?_
   rotate_left
   ·intro wq hSw; (try dsimp only at hSw); go_simp; (try with_reducible rfl)
   (try simp only [Act.put, List.setIfInBounds_toArray, List.set_cons_zero, List.set_cons_succ])
   refine wpAnyH_done ?_ ?_ _
   ·decide +kernel
   replace o7 := hide o7
   replace qW := hide qW
   replace yW := hide yW
   replace kF := hide kF
   replace kF0 := hide kF0
   rw [← htk.out] at qW
   clear hHeld
   go_wp2
   go_roundw
   case measure => simp [intOf]; omega
   case rel => exact ⟨i + 1, la7, lc7, _, by omega, by go_num, rfl, o7, qW, yW, kF, kF0⟩
  ·obtain rfl : i = n := by omega
   have hlt1 : decide ((i : Int) < (i : Int)) = false := by simp
   have hq2 : Hid (Prg wr q (shf x P)) := hide (by
    have := hq.out
    rwa [List.take_of_length_le (by rw [hPl.out]; exact Nat.le_refl _)] at this)
   clear hq
   obtain ⟨a', c', e', hs⟩ := src_own ho.out hq2.out
   cases e'
   replace hs := hide hs
   go_wp2
   exact bodyPost_ret (results_tmp rfl _ _ _) rfl ⟨_, _, q, rfl, hs.out, kr.out⟩
end Pd
end Go.Proofs.YtfannonacamhhaaGreat

namespace Go.Proofs.YtfannonacamhhaaGreat
open Go.RowKit Go.Sort
namespace Pd

theorem ze_step {w0 w w' : World} {z : ZV} {x : Int} (h : Ze w0 w z x) (hs : w.heap.size ≤ w'.heap.size) (hu : ∀ g, Own w g 60 → w'.heap[g]? = w.heap[g]?) : Ze w0 w' z x := h.imp id fun h => zn_blk h hs hu
theorem nls_take {w : World} {ad : Option Addr} {n : Nat} {P : List Nat} (h : NLs w ad n P) {r : Nat} (hr : r ≤ n) : NLs w ad r (P.take r) := by
 refine ⟨by rw [List.length_take, h.1]; omega, ?_⟩
 by_cases h0 : r = 0
 ·exact .inl h0
 ·obtain h1 | ⟨b, e, hb, hc⟩ := h.2
  ·omega
  ·exact .inr ⟨b, e, hb, fun i hi => by
    rw [List.length_take] at hi
    have := hc i (by omega)
    rw [this]
    simp⟩
/-- .. at an operation -/
theorem appN_wp {w : World} {base n m : Nat} {v : Value} {q r : List ZV} {sa : Option Addr} {c : Nat} {xs : List Int} {ops : Array Oper} {rest : List Oper} {o : Oper} {a : Act} {Q : Exit → Act → World → Prop} (hgd : o.guard = none) (s x : Operand) (ho : o.op = .call { callee := .builtin .append, args := #[s, x], argTypes := #[23, 23] }) (hs : a.eval s = v) (hx : a.eval x = .slice sa m c)
  (h : w.ownsRow base 38 2 v n (encL ZV.enc q)) (hsrc : Src w sa m c r xs) (h63 : n + m ≤ 1073741824) (hbase : base ≤ w.heap.size)
  (hK : ∀ v' w', w'.ownsRow base 38 2 v' (n + m) (encL ZV.enc (q ++ r)) → w.grownBy w' v.ownBlock → (v'.ownBlock = v.ownBlock ∨ v'.ownBlock = some w.heap.size) → wpList Tryz.prog ops Q rest (a.put o.dst v') w') : wpList Tryz.prog ops Q (o :: rest) a w := by
 refine wpList_plain hgd fun K hK2 => ?_
 obtain ⟨v', w', hr, h2, h3, h4⟩ := runN h hsrc h63 hbase o.type
 unfold Oper.wp execOp
 simp only [ho, resolve, invoke, builtin, Sem.run_bind, Sem.run_pure, Result.andThen_ok, List.map_toArray, List.map_cons, List.map_nil, hs, hx, hr]
 exact hK2 _ _ (hK v' w' h2 h3 h4)
theorem PB.own {w w' : World} {base n b : Nat} {e : TypeId} {sz : Nat} {v : Value} {xs : List Value} {p : PcV} (hg : w.grownBy w' v.ownBlock) (ho : w.ownsRow base e sz v n xs) (y : PB w b p) (hb : b < base) : PB w' b p :=
 (hg.block b y.lt fun e => by have := (own_blk ho _ e.symm).1; omega).trans y
set_option maxRecDepth 100000 in
set_option maxHeartbeats 12800000 in
theorem members_n {w : World} {D : PD} {p : PcV} {x n : Int} (hp1 : 1 ≤ D.p) (hp2 : D.p ≤ 4096) (hK : PcK w D p x n) (hn : 0 ≤ n) (hc : ∀ s ∈ D.cs, ¬ (x < s ∧ s < x + n)) (hfl : p.f.l ≤ 8589930000) (hfew : cntQ (mem D) (x, n) ≤ 1000) :
  Calls Tryz.prog 77 #[p.val] w fun e w' => ∃ a c m q, e = .returned (.slice a m c) ∧ Src w' a m c q (memQ (mem D) (x, n)) ∧ Below w.heap.size w w' := by
 obtain ⟨m, hm, hil, hnl⟩ := hK.inn
 have hm2 : m ≤ 4096 := by split at hm <;> omega
 have hpl : ∀ k ∈ plL (mem D) x m, k < 4096 := fun k hk => by
  have := List.mem_range.1 (List.mem_filter.1 hk).1
  omega
 have hcnt := pc_cnt hp1 hn hc hm hK.r
 obtain ⟨P, hP⟩ : ∃ P, plL (mem D) x m = P := ⟨_, rfl⟩
 rw [hP] at hil hnl hpl hcnt
 obtain ⟨il, hil2⟩ : ∃ il, p.il = il := ⟨_, rfl⟩
 obtain ⟨ia, hia⟩ : ∃ ia, p.ia = ia := ⟨_, rfl⟩
 have hil4 : il ≤ 4096 := by rw [← hil2, hil, ← hP, plL_len]; exact Nat.le_trans (cntm_le _ _ _) hm2
 have hq0 : 0 ≤ n / (D.p : Int) := Int.ediv_nonneg hn (by omega)
 obtain ⟨qn, hqn⟩ : ∃ qn : Nat, n / (D.p : Int) = qn := ⟨(n / (D.p : Int)).toNat, by omega⟩
 have hmem : qn * il + lowN P p.r = cntQ (mem D) (x, n) := by
  rw [hqn, ← hil, hil2] at hcnt
  exact_mod_cast hcnt
 have hlow := lowN_le P p.r
 have hres := pc_mems (D := D) hp1 hn hc hm hK.r hqn.symm
 rw [hP] at hres
 have hPl : P.length = il := by rw [← hil2]; exact hil.symm
 have hcap := hK.cap
 rw [hil2] at hcap
 have hnl0 := hide hnl
 have hper := hK.per
 rw [hil2, hia] at hnl
 have hKh := hK.h
 rw [hqn] at hKh
 have b0 := below_alloc w (.cells #[.bool p.f.s, .slice p.f.a p.f.l p.f.c, .int .i64 p.per, .slice p.ia p.il p.ic, .bool p.h.s, .slice p.h.a p.h.l p.h.c, .int .i64 p.r] 102)
 have y0 : PB _ w.heap.size p := heap_alloc_new w (.cells #[.bool p.f.s, .slice p.f.a p.f.l p.f.c, .int .i64 p.per, .slice p.ia p.il p.ic, .bool p.h.s, .slice p.h.a p.h.l p.h.c, .int .i64 p.r] 102)
 have hx0 := hide (hK.f.below b0)
 have hh0 := hide (hKh.below b0)
 have hP0 := hide (hnl.below b0)
 have hhl := hK.hl
 obtain ⟨g0, g1, g2, g3, g4, g5, g6⟩ := y0.all
 have hbt : w.heap.size < (w.alloc (.cells #[.bool p.f.s, .slice p.f.a p.f.l p.f.c, .int .i64 p.per, .slice p.ia p.il p.ic, .bool p.h.s, .slice p.h.a p.h.l p.h.c, .int .i64 p.r] 102)).heap.size := by simp
 replace hres := hide hres
 replace b0 := hide b0
 replace y0 := hide y0
 replace hil := hide hil
 replace hil2 := hide hil2
 replace hia := hide hia
 replace hP := hide hP
 replace hPl := hide hPl
 replace hper := hide hper
 replace hnl := hide hnl
 replace hK := hide hK
 replace hqn := hide hqn
 replace hpl := hide hpl
 replace hm := hide hm
 replace hmem := hide hmem
 clear hcnt hq0
 go_enter Tryz.func77, Tryz.ntmps77
 go_upto_region 1 with (fail)
 generalize w.alloc (.cells #[.bool p.f.s, .slice p.f.a p.f.l p.f.c, .int .i64 p.per, .slice p.ia p.il p.ic, .bool p.h.s, .slice p.h.a p.h.l p.h.c, .int .i64 p.r] 102) = w0 at *
 obtain ⟨bt, hbw⟩ : ∃ bt, w.heap.size = bt := ⟨_, rfl⟩
 rw [hbw] at g0 g1 g2 g3 g4 g5 g6 hbt y0 ⊢
 replace hbw := hide hbw
 rw [hil2.out, hia.out] at g3
 rw [hper.out] at g2
 by_cases hz : il = 0
 ·have hn0 : Hid (memQ (mem D) (x, n) = []) := hide (List.length_eq_zero_iff.1 (by rw [memQ_len, ← hmem.out, hz]; have := hlow; rw [hPl.out, hz] at this; omega))
  rw [hz] at g3
  replace hz := hide hz
  clear hx0 hh0 hP0 y0
  go_wp2
  refine bodyPost_ret (results_tmp rfl _ _ _) rfl ⟨none, 0, 0, [], rfl, ?_, b0.out⟩
  rw [hn0.out]
  exact ⟨rfl, prg_nil _, .inl ⟨rfl, rfl, rfl⟩⟩
 ·have hqn2 : qn ≤ 1000 := by
   have h1 : qn * 1 ≤ qn * il := Nat.mul_le_mul_left _ (by omega)
   have h2 := hmem.out
   omega
  have hne : ((il : Int) == 0) = false := by rw [beq_eq_false_iff_ne]; omega
  have hi := hide (zint64_in hh0.out.zm (by omega) (by omega) (by omega))
  clear hh0
  have eg : ∀ args w, (callFunc 126 args).run Tryz.prog w = .ok (.enter 126 args) w := enters_of Tryz.func126 (by kernel_rfl) rfl
  go_wp2_with fail
  refine hi.out.mono ?_
  rintro e w1 ⟨rfl, k1⟩
  have y1 := hide (y0.out.below k1)
  have b1 := hide (grow_step k1 b0.out)
  have x1 := hide (hx0.out.below k1)
  clear hi g0 g1 g2 g3 g4 g5 g6 k1 hP0 hx0 y0
  go_upto_region 5 with (fail)
  go_cut [6, 7] (fun v6 v7 wc => ∃ (b5 bb : Nat) (yb : ZV), v6 = .pointer (some ⟨b5, 0, none⟩) ∧ v7 = .func (.func 126) #[] #[.pointer (some ⟨bb, 0, none⟩)] ∧ Hid (ZB wc b5 p.f.s p.f.a p.f.l p.f.c) ∧ Hid (ZB wc bb yb.s yb.a yb.l yb.c) ∧ Hid (Fresh.Zn 0 wc yb.s yb.a yb.l yb.c (D.p : Int)) ∧ yb.l ≤ 2 ∧ bb ≠ b5 ∧ w1.heap.size ≤ b5 ∧ w1.heap.size ≤ bb ∧ Hid (Below w1.heap.size w1 wc))
  case first =>
   refine wp_region_held_drew (S := (fun w' => w'.cell? ⟨bt, 0, none⟩ = some (.bool p.f.s) ∧ w'.cell? ⟨bt, 1, none⟩ = some (.slice p.f.a p.f.l p.f.c) ∧ w'.cell? ⟨bt, 2, none⟩ = some (.int .i64 D.p))) (by kernel_rfl) (⟨(y1.out.below (grow_drew (Below.refl _ _))).all.1, (y1.out.below (grow_drew (Below.refl _ _))).all.2.1, by have := (y1.out.below (grow_drew (Below.refl _ _))).all.2.2.1; rwa [hper.out] at this⟩) (fun hHeld => ?_)
   show wpAnyH _ _ _ _ _ 8 _ _ _
   have kW := grow_drew (Below.refl w1.heap.size w1)
   have yW := y1.out.below kW
   generalize w1.drew = wQ at *
   have hbtW := y1.out.lt
   repeat' first
    | with_reducible exact AllReadyH.nil
    | (
     refine wpAnyH_take (i := 0) (oi := ⟨some 18, _, _, _, _, _⟩) (v := ?_) rfl (by decide +kernel) (by decide +kernel) (by decide +kernel) (fun _ _ _ h => h) (Or.inl ⟨by rfl, ?_⟩) (by assumption) ?_
     rotate_left
     ·intro wq hSw; (try dsimp only at hSw); go_simp; (try with_reducible rfl)
     (try simp only [Act.put, List.setIfInBounds_toArray, List.set_cons_zero, List.set_cons_succ]))
    | (
     refine wpAnyH_take (i := 1) (oi := ⟨some 19, _, _, _, _, _⟩) (v := ?_) rfl (by decide +kernel) (by decide +kernel) (by decide +kernel) (fun _ _ _ h => h) (Or.inl ⟨by rfl, ?_⟩) (by assumption) ?_
     rotate_left
     ·intro wq hSw; (try dsimp only at hSw); go_simp; (try with_reducible rfl)
     (try simp only [Act.put, List.setIfInBounds_toArray, List.set_cons_zero, List.set_cons_succ]))
    | (
     refine wpAnyH_take (i := 2) (oi := ⟨some 20, _, _, _, _, _⟩) (v := ?_) rfl (by decide +kernel) (by decide +kernel) (by decide +kernel) (fun _ _ _ h => h) (Or.inl ⟨by rfl, ?_⟩) (by assumption) ?_
     rotate_left
     ·intro wq hSw; (try dsimp only at hSw); go_simp; (try with_reducible rfl)
     (try simp only [Act.put, List.setIfInBounds_toArray, List.set_cons_zero, List.set_cons_succ]))
    | (
     refine wpAnyH_take (i := 3) (oi := ⟨some 21, _, _, _, _, _⟩) (v := ?_) rfl (by decide +kernel) (by decide +kernel) (by decide +kernel) (fun _ _ _ h => h) (Or.inl ⟨by rfl, ?_⟩) (by assumption) ?_
     rotate_left
     ·intro wq hSw; (try dsimp only at hSw); go_simp; (try with_reducible rfl)
     (try simp only [Act.put, List.setIfInBounds_toArray, List.set_cons_zero, List.set_cons_succ]))
    | (refine wpAnyH_ready (rs := [4, 5]) ?_ ?_ ?_; decide +kernel; simp)
    | (refine wpAnyH_ready (rs := [5]) ?_ ?_ ?_; decide +kernel; simp)
    | (refine wpAnyH_ready (rs := [6]) ?_ ?_ ?_; decide +kernel; simp)
    | (refine wpAnyH_ready (rs := [7]) ?_ ?_ ?_; decide +kernel; simp)
    | (refine wpAnyH_ready (rs := [4]) ?_ ?_ ?_; decide +kernel; simp)
    | (
     first
      | (
       refine AllReadyH.cons (i := 4) (o := ⟨some 22, _, _, _, _, _⟩) rfl (fun K hK => ?_) ?_
       go_simp
       go_at_call 79; refine Calls.mono (cby_g (D.p : Int) (by omega) (by omega) _) ?_; rintro e wB ⟨bb, yb, rfl, zB, zK, hyl, kB, hgb⟩
       have hbb := Nat.le_trans kW.size hgb
       try have hne : bb ≠ b5 := (Nat.ne_of_lt (Nat.lt_of_lt_of_le z5.lt hgb)).symm
       have yW := yW.below kB
       try have z5 := z5.below kB
       have kW := grow_step kB kW
       try go_wp2_with fail)
      | (
       refine AllReadyH.cons (i := 5) (o := ⟨some 6, _, _, _, _, _⟩) rfl (fun K hK => ?_) ?_
       obtain ⟨wL, b5, eL, eb5, z5, hb5, kL, -⟩ := al_b kW (.cells #[.bool false, .slice none 0 0] 38)
       replace z5 : ZB wL b5 false none 0 0 := z5
       try have hne : bb ≠ b5 := by have := zB.lt; have := eb5.out; omega
       have yW := yW.below kL
       try have zB := zB.below kL
       try have zK := zK.below kL
       have kW := grow_step kL kW
       go_simp
       rw [eL.out]
       (try simp only [eb5.out]))
      | (
       refine AllReadyH.cons (i := 6) (o := ⟨none, _, _, _, _, _⟩) rfl (fun K hK => ?_) ?_
       have f0 := z5.c0
       have f1 := z5.c1
       have f2 := z5.f 0
       have f3 := z5.f 1
       go_simp
       have zK := zn_blk zK (Nat.le_of_eq (only2 b5 _ (.bool p.f.s) (.slice p.f.a p.f.l p.f.c)).size.symm) (u32_only (only2 b5 _ (.bool p.f.s) (.slice p.f.a p.f.l p.f.c)) z5 (by decide))
       have zB := zB.only (only2 b5 _ (.bool p.f.s) (.slice p.f.a p.f.l p.f.c)) hne
       have yW := yW.only (only2 b5 _ (.bool p.f.s) (.slice p.f.a p.f.l p.f.c)) (by omega)
       have z5 := zb_fin z5 p.f.s p.f.a p.f.l p.f.c
       have kW := (kW.setCell (p := ⟨b5, 0, none⟩) hb5 (.bool p.f.s)).setCell (p := ⟨b5, 1, none⟩) hb5 (.slice p.f.a p.f.l p.f.c)
       clear f0 f1 f2 f3)
      | (
       refine AllReadyH.cons (i := 7) (o := ⟨some 7, _, _, _, _, _⟩) rfl (fun K hK => ?_) ?_
       go_simp)
     refine hK.out _ _ ?_ ?_
     ·first | with_reducible exact trivial | ((try dsimp only); exact ⟨yW.all.1, yW.all.2.1, by have := yW.all.2.2.1; rwa [hper.out] at this⟩)
     clear hK K hHeld; intro hHeld
     (try simp only [Act.put, List.setIfInBounds_toArray, List.set_cons_zero, List.set_cons_succ]))
   all_goals
    refine wpAnyH_done ?_ ?_ _
    ·decide +kernel
    replace z5 := hide z5
    replace zB := hide zB
    replace zK := hide zK
    replace kW := hide kW
    clear hHeld yW
    go_wp2_with fail
    go_meet
    case rel => exact ⟨b5, bb, yb, rfl, rfl, z5, zB, zK, hyl, hne, hb5, hbb, kW⟩
  case rest =>
   obtain ⟨b5, bb, yb, rfl, rfl, z5, zb, zk, hyl, hne5, hb5, hbb, kc⟩ := hcut
   have y2 := hide (y1.out.below kc.out)
   have b2 := hide (grow_step kc.out b1.out)
   have x2 := hide (x1.out.below kc.out)
   have hbt1 := y1.out.lt
   have hw1 := b1.out.size
   have h5l := z5.out.lt
   have hbl := zb.out.lt
   clear y1 b1 x1 kc
   generalize wc = w2 at *
   obtain ⟨bs, hbs⟩ : ∃ bs, w2.heap.size = bs := ⟨_, rfl⟩
   rw [hbs] at h5l hbl
   replace hbs := hide hbs
   go_wp2_with fail
   go_loopw [3, 24] (fun vl vi wr => ∃ (i mq : Nat) (la : Option Addr) (lc : Nat) (q : List ZV) (zs : ZV), i ≤ qn ∧ vi = .int .i64 i ∧ vl = .slice la mq lc ∧ mq = i * il ∧ Hid (wr.ownsRow bs 38 2 (.slice la mq lc) mq (encL ZV.enc q)) ∧ Hid (Prg wr q (repQ P x D.p i)) ∧ Hid (ZB wr b5 zs.s zs.a zs.l zs.c) ∧ Hid (Ze w wr zs (x + (i : Int) * (D.p : Int))) ∧ zs.l ≤ p.f.l + 2 + i ∧ Hid (ZB wr bb yb.s yb.a yb.l yb.c) ∧ Hid (Fresh.Zn 0 wr yb.s yb.a yb.l yb.c (D.p : Int)) ∧ Hid (PB wr bt p) ∧ Hid (Below w.heap.size w wr) ∧ bs ≤ wr.heap.size) (fun _ vi _ => qn - (intOf vi).toNat)
   case atStart => exact ⟨0, 0, none, 0, [], p.f, Nat.zero_le _, rfl, rfl, by simp, hide (World.ownsRow_nil _ _ _ _), hide (by simpa [repQ] using prg_nil _), z5, hide (.inl (by simpa using hK.out.f)), by omega, zb, zk, y2, b2, Nat.le_of_eq hbs.out.symm⟩
   case round =>
    clear z5 zb zk y2 b2 x2
    obtain ⟨i, mq, la, lc, q, zs, hi, rfl, rfl, hmq, ho, hq, zx, hze, hzl, zb, zk, yp, kr, hbr⟩ := hrel
    have hmq2 : mq ≤ 1000 := by
     have h1 : i * il ≤ qn * il := Nat.mul_le_mul_right _ hi
     have h2 := hmem.out
     omega
    by_cases hin : i < qn
    ·have hi3 : (i : Int) < (qn : Int) := by omega
     have hlt1 : decide ((i : Int) < (qn : Int)) = true := by rw [decide_eq_true_eq]; exact hi3
     have c0 := zx.out.c0
     have c1 := zx.out.c1
     obtain ⟨-, -, -, g3, -, -, -⟩ := yp.out.all
     rw [hil2.out, hia.out] at g3
     have hfr := hide (from_n (pc := p.ic) (hnl.out.below kr.out) hil4 hpl.out (hze.out.zm kr.out) (by omega))
     replace hmq := hide hmq
     go_wp2_with fail
     refine hfr.out.mono ?_
     rintro e w3 ⟨fa, fc, fq, rfl, hsrc, k3⟩
     have ho3 := hide (own_below ho.out k3)
     have hq3 := hide (hq.out.below k3)
     have zx3 := hide (zx.out.below k3)
     have hze3 := hide (hze.out.below k3)
     have zb3 := hide (zb.out.below k3)
     have zk3 := hide (zk.out.below k3)
     have yp3 := hide (yp.out.below k3)
     have kr3 := hide (grow_step k3 kr.out)
     have hbr3 : bs ≤ w3.heap.size := Nat.le_trans hbr k3.size
     replace hsrc := hide hsrc
     clear hfr ho hq zx hze zb zk yp kr k3 c0 c1 g3 hbr
     go_wp2_with (refine appN_wp rfl _ _ rfl rfl rfl ho3.out hsrc.out (by omega) hbr3 ?_)
     intro v4 w4 ho4 hg4 _
     have hob := own_blk ho3.out
     have hu4 := u32_grown hg4 (fun g e => (hob g e).2) (by decide)
     have hq4 := hide ((hq3.out.app hsrc.out.2.1).blk hg4.size hu4)
     have zx4 := hide (zb_own hg4 ho3.out zx3.out (by omega))
     have hze4 := hide (ze_step hze3.out hg4.size hu4)
     have zb4 := hide (zb_own hg4 ho3.out zb3.out (by omega))
     have zk4 := hide (zn_blk zk3.out hg4.size hu4)
     have yp4 := hide (PB.own hg4 ho3.out yp3.out (by omega))
     have hwb : w.heap.size ≤ bs := by have := hbw.out; omega
     have kr4 := hide (below_grown kr3.out hg4 (fun g e => Nat.le_trans hwb (hob g e).1) kr3.out.size)
     have hbr4 : bs ≤ w4.heap.size := Nat.le_trans hbr3 hg4.size
     obtain ⟨-, la4, lc4, rfl, -⟩ := own_any (by decide) zv_len ho4
     replace ho4 := hide ho4
     clear hob hu4 hg4 ho3 hq3 zx3 hze3 zb3 zk3 yp3 kr3 hsrc hbr3
     have c0 := zx4.out.c0
     have c1 := zx4.out.c1
     have hcb := hide (cby1_f (z := zs) (y := yb) zb4.out (hze4.out.zm kr4.out) zk4.out.zn.zm (by omega) (by omega))
     go_wp2_with fail
     refine hcb.out.mono ?_
     rintro e w5 ⟨s5, a5, l5, c5, rfl, hz5, k5, hl5⟩
     have zx5 := zx4.out.below k5
     have f0 := zx5.c0
     have f1 := zx5.c1
     have f2 := zx5.f 0
     have f3 := zx5.f 1
     have o2 := only2 b5 w5 (.bool s5) (.slice a5 l5 c5)
     have hu5 := u32_only o2 zx5 (by decide)
     have hs5 := Nat.le_of_eq o2.size.symm
     have ho5 := hide (own_only (own_below ho4.out k5) o2 fun g e => by have := (own_blk ho4.out g e).1; omega)
     have hq5 := hide ((hq4.out.below k5).blk hs5 hu5)
     have zx6 := hide (zb_fin zx5 s5 a5 l5 c5)
     have hze5 := hide (zn_blk hz5 hs5 hu5)
     have zb5 := hide ((zb4.out.below k5).only o2 hne5)
     have zk5 := hide (zn_blk (zk4.out.below k5) hs5 hu5)
     have yp5 := hide ((yp4.out.below k5).only o2 (by omega))
     have kr5 := hide ((grow_step k5 kr4.out).trans (o2.below (by omega)))
     have hbr5 : bs ≤ ((w5.setCell ⟨b5, 0, none⟩ (.bool s5)).setCell ⟨b5, 1, none⟩ (.slice a5 l5 c5)).heap.size := by rw [o2.size]; exact Nat.le_trans hbr4 k5.size
     clear hcb c0 c1 zx4 ho4 hq4 hze4 zb4 zk4 yp4 kr4 hbr4 k5 zx5 o2 hu5 hs5 hz5
     go_wp2
     go_roundw
     case measure => simp [intOf]; omega
     case rel => exact ⟨i + 1, mq + il, la4, lc4, _, ⟨s5, a5, l5, c5⟩, by omega, by go_num, rfl, by rw [hmq.out, Nat.add_mul]; omega, ho5, hq5, zx6, hide (.inr (by
      have := hze5.out
      rwa [show x + (i : Int) * (D.p : Int) + (D.p : Int) = x + ((i + 1 : Nat) : Int) * (D.p : Int) by rw [Int.natCast_add, Int.add_mul]; omega] at this)), by show l5 ≤ _; omega, zb5, zk5, yp5, kr5, hbr5⟩
    ·obtain rfl : i = qn := by omega
     have hlt1 : decide ((i : Int) < (i : Int)) = false := by simp
     clear zb zk
     obtain ⟨pb, rfl⟩ : ∃ pb, ia = some ⟨pb, 0, none⟩ := by
      obtain h0 | ⟨b, e, -⟩ := hnl.out.2
      ·exact absurd h0 hz
      ·exact ⟨b, e⟩
     obtain ⟨lr, hlrE⟩ : ∃ lr, lowN P p.r = lr := ⟨_, rfl⟩
     have hlr : lr ≤ il := by rw [← hlrE, ← hPl.out]; exact hlow
     have hlrc : (lr : Int) ≤ (p.ic : Int) := by omega
     have hmemr : i * il + lr ≤ 1000 := by rw [← hlrE, hmem.out]; exact hfew
     have hnm : mq + lr ≤ 1073741824 := by rw [hmq]; omega
     replace hmq := hide hmq
     replace hlrE := hide hlrE
     go_upto_region 11 with (fail)
     refine wp_region_held_drew (S := (fun w' => (w'.cell? ⟨bt, 0, none⟩ = some (.bool p.f.s) ∧ w'.cell? ⟨bt, 1, none⟩ = some (.slice p.f.a p.f.l p.f.c) ∧ w'.cell? ⟨bt, 2, none⟩ = some (.int .i64 p.per) ∧ w'.cell? ⟨bt, 3, none⟩ = some (.slice (some ⟨pb, 0, none⟩) il p.ic) ∧ w'.cell? ⟨bt, 4, none⟩ = some (.bool p.h.s) ∧ w'.cell? ⟨bt, 5, none⟩ = some (.slice p.h.a p.h.l p.h.c) ∧ w'.cell? ⟨bt, 6, none⟩ = some (.int .i64 p.r)) ∧ w'.cell? ⟨b5, 0, none⟩ = some (.bool zs.s) ∧ w'.cell? ⟨b5, 1, none⟩ = some (.slice zs.a zs.l zs.c))) (by kernel_rfl) (⟨by have := (yp.out.below (grow_drew (Below.refl _ _))).all; rwa [hia.out, hil2.out] at this, (zx.out.below (grow_drew (Below.refl _ _))).c0, (zx.out.below (grow_drew (Below.refl _ _))).c1⟩) (fun hHeld => ?_)
     show wpAnyH _ _ _ _ _ 10 _ _ _
     have kD := grow_drew (Below.refl wr.heap.size wr)
     have yW := yp.out.below kD
     have zW := zx.out.below kD
     have oW := own_below ho.out kD
     have qW := hq.out.below kD
     have eW := hze.out.below kD
     have kW := grow_step kD kr.out
     have kW2 := kD
     have hbr0 := hbr
     generalize wr.drew = wQ at *
     refine wpAnyH_take (i := 0) (oi := ⟨some 36, _, _, _, _, _⟩) (v := ?_) rfl (by decide +kernel) (by decide +kernel) (by decide +kernel) (fun _ _ _ h => h) (Or.inl ⟨by rfl, ?_⟩) (by assumption) ?_
     rotate_left
     ·intro wq hSw; (try dsimp only at hSw); go_simp; (try with_reducible rfl)
     (try simp only [Act.put, List.setIfInBounds_toArray, List.set_cons_zero, List.set_cons_succ])
     refine wpAnyH_take (i := 1) (oi := ⟨some 37, _, _, _, _, _⟩) (v := ?_) rfl (by decide +kernel) (by decide +kernel) (by decide +kernel) (fun _ _ _ h => h) (Or.inl ⟨by rfl, ?_⟩) (by assumption) ?_
     rotate_left
     ·intro wq hSw; (try dsimp only at hSw); go_simp; (try with_reducible rfl)
     (try simp only [Act.put, List.setIfInBounds_toArray, List.set_cons_zero, List.set_cons_succ])
     refine wpAnyH_take (i := 2) (oi := ⟨some 38, _, _, _, _, _⟩) (v := ?_) rfl (by decide +kernel) (by decide +kernel) (by decide +kernel) (fun _ _ _ h => h) (Or.inl ⟨by rfl, ?_⟩) (by assumption) ?_
     rotate_left
     ·intro wq hSw; (try dsimp only at hSw); go_simp; (try with_reducible rfl)
     (try simp only [Act.put, List.setIfInBounds_toArray, List.set_cons_zero, List.set_cons_succ])
     refine wpAnyH_take (i := 3) (oi := ⟨some 39, _, _, _, _, _⟩) (v := ?_) rfl (by decide +kernel) (by decide +kernel) (by decide +kernel) (fun _ _ _ h => h) (Or.inl ⟨by rfl, ?_⟩) (by assumption) ?_
     rotate_left
     ·intro wq hSw; (try dsimp only at hSw); go_simp; (try with_reducible rfl)
     (try simp only [Act.put, List.setIfInBounds_toArray, List.set_cons_zero, List.set_cons_succ])
     refine wpAnyH_take (i := 4) (oi := ⟨some 40, _, _, _, _, _⟩) (v := ?_) rfl (by decide +kernel) (by decide +kernel) (by decide +kernel) (fun _ _ _ h => h) (Or.inl ⟨by rfl, ?_⟩) (by assumption) ?_
     rotate_left
     ·intro wq hSw; (try dsimp only at hSw); go_simp; (try with_reducible rfl)
     (try simp only [Act.put, List.setIfInBounds_toArray, List.set_cons_zero, List.set_cons_succ])
     refine wpAnyH_ready (rs := [5]) (by decide +kernel) (by simp) ?_
     refine AllReadyH.cons (i := 5) (o := ⟨some 41, _, _, _, _, _⟩) rfl (fun K hK => ?_) AllReadyH.nil
     go_simp
     go_at_call 117; refine Calls.mono (atRest_n (p := ⟨p.f, p.per, some ⟨pb, 0, none⟩, il, p.ic, p.h, p.r⟩) (hnl.out.below kW) hil4 hpl.out) ?_; rintro e wR ⟨rfl, kR⟩
     (try dsimp only)
     rw [hlrE.out]
     have yW := yW.below kR
     have zW := zW.below kR
     have oW := own_below oW kR
     have qW := qW.below kR
     have eW := eW.below kR
     have kW := grow_step kR kW
     have kW2 := grow_step kR kW2
     try go_wp2_with fail
     refine hK.out _ _ ?_ ?_
     ·first | with_reducible exact trivial | ((try dsimp only); exact ⟨by have := yW.all; rwa [hia.out, hil2.out] at this, zW.c0, zW.c1⟩)
     clear hK K hHeld; intro hHeld
     (try simp only [Act.put, List.setIfInBounds_toArray, List.set_cons_zero, List.set_cons_succ])
     refine wpAnyH_take (i := 6) (oi := ⟨some 42, _, _, _, _, _⟩) (v := ?_) rfl (by decide +kernel) (by decide +kernel) (by decide +kernel) (fun _ _ _ h => h) (Or.inl ⟨by rfl, ?_⟩) (by assumption) ?_
     rotate_left
     ·intro wq hSw; (try dsimp only at hSw); go_simp; (try with_reducible rfl)
     (try simp only [Act.put, List.setIfInBounds_toArray, List.set_cons_zero, List.set_cons_succ])
     refine wpAnyH_ready (rs := [7]) (by decide +kernel) (by simp) ?_
     refine AllReadyH.cons (i := 7) (o := ⟨some 43, _, _, _, _, _⟩) rfl (fun K hK => ?_) AllReadyH.nil
     go_simp
     go_at_call 123; refine Calls.mono (from_n (pc := p.ic) (nls_take (hnl.out.below kW) hlr) (by omega) (fun k hk => hpl.out k (List.mem_of_mem_take hk)) (eW.zm kW) (by omega)) ?_; rintro e wF ⟨fa, fc, fq, rfl, hsrc, kF⟩
     have yW := yW.below kF
     have zW := zW.below kF
     have oW := own_below oW kF
     have qW := qW.below kF
     have eW := eW.below kF
     have kW := grow_step kF kW
     have kW2 := grow_step kF kW2
     try go_wp2_with fail
     refine hK.out _ _ ?_ ?_
     ·first | with_reducible exact trivial | ((try dsimp only); exact ⟨by have := yW.all; rwa [hia.out, hil2.out] at this, zW.c0, zW.c1⟩)
     clear hK K hHeld; intro hHeld
     (try simp only [Act.put, List.setIfInBounds_toArray, List.set_cons_zero, List.set_cons_succ])
     refine wpAnyH_ready (rs := [8]) (by decide +kernel) (by simp) ?_
     refine AllReadyH.cons (i := 8) (o := ⟨some 44, _, _, _, _, _⟩) rfl (fun K hK => ?_) AllReadyH.nil
     have hrun := runN oW hsrc hnm (Nat.le_trans hbr0 kW2.size)
     clear kW2
     refine anyH_append rfl _ _ 23 rfl (.slice la mq lc) (.slice fa lr fc) rfl rfl _ (hrun _) ?_
     rintro v7 w7 ⟨o7, g7, -⟩
     have hob := own_blk oW
     have qW := (qW.app hsrc.2.1).blk g7.size (u32_grown g7 (fun g e => (hob g e).2) (by decide))
     have yW := PB.own g7 oW yW (by omega)
     have zW := zb_own g7 oW zW (by omega)
     have hwb : w.heap.size ≤ bs := by have := hbw.out; omega
     have kF2 := below_grown kW g7 (fun g e => Nat.le_trans hwb (hob g e).1) kW.size
     obtain ⟨a8, c8, e8, hS8⟩ := src_own o7 qW
     cases e8
     clear hob g7 oW kW hsrc eW o7
     refine hK.out _ _ ?_ ?_
     ·first | with_reducible exact trivial | ((try dsimp only); exact ⟨by have := yW.all; rwa [hia.out, hil2.out] at this, zW.c0, zW.c1⟩)
     clear hK K hHeld; intro hHeld
     (try simp only [Act.put, List.setIfInBounds_toArray, List.set_cons_zero, List.set_cons_succ])
     refine wpAnyH_take (i := 9) (oi := ⟨some 2, _, _, _, _, _⟩) (v := ?_) rfl (by decide +kernel) (by decide +kernel) (by decide +kernel) (fun _ _ _ h => h) (Or.inl ⟨by rfl, ?_⟩) (by assumption) ?_
     rotate_left
     ·intro wq hSw; (try dsimp only at hSw); go_simp; (try with_reducible rfl)
     (try simp only [Act.put, List.setIfInBounds_toArray, List.set_cons_zero, List.set_cons_succ])
     refine wpAnyH_done ?_ ?_ _
     ·decide +kernel
     have hx := hres.out
     rw [hlrE.out] at hx
     rw [hx] at hS8
     clear hx
     replace hS8 := hide hS8
     replace kF2 := hide kF2
     clear hHeld yW zW qW
     go_wp2
     exact bodyPost_ret (results_tmp rfl _ _ _) rfl ⟨_, _, _, _, rfl, hS8.out, kF2.out⟩
end Pd
end Go.Proofs.YtfannonacamhhaaGreat

namespace Go.Proofs.YtfannonacamhhaaGreat
open Go.RowKit Go.Shelf
attribute [local go_sem] Oper.semAt_some
namespace Pd

/-- a slice and a number, both in blocks of their own -/
theorem results_si {P : Program} {fn : Func} {p1 p2 : Tmp} {ty1 ty2 : TypeId} {el : TypeId} {q : IntKind} (h : fn.results = #[.cell p1 ty1, .cell p2 ty2]) (tmps : Array Value) (w : World) (g1 g2 : Nat) (v1 v2 : Value) (t1 t2 : TypeId) (fr1 fr2 : Nat × Nat)
  (hp1 : tmps.getD p1 undef = .pointer (some ⟨g1, 0, none⟩)) (hp2 : tmps.getD p2 undef = .pointer (some ⟨g2, 0, none⟩)) (hg1 : w.heap[g1]? = some (.cells #[v1] t1 fr1)) (hg2 : w.heap[g2]? = some (.cells #[v2] t2 fr2)) (hu1 : P.underlying ty1 = some (.slice el)) (hu2 : P.underlying ty2 = some (.int q)) :
  (results fn tmps).run P w = .ok (.tuple #[v1, v2]) w := by
 have hp1' : tmps[p1]?.getD undef = .pointer (some ⟨g1, 0, none⟩) := by simpa using hp1
 have hp2' : tmps[p2]?.getD undef = .pointer (some ⟨g2, 0, none⟩) := by simpa using hp2
 have hc1 := cell_of_row w g1 0 _ _ fr1 hg1
 have hc2 := cell_of_row w g2 0 _ _ fr2 hg2
 have hl1 : (loadVar ty1 ⟨g1, 0, none⟩).run P w = .ok v1 w := by simp [loadVar, isAgg, run_underlying hu1, go_sem, hc1]
 have hl2 : (loadVar ty2 ⟨g2, 0, none⟩).run P w = .ok v2 w := by simp [loadVar, isAgg, run_underlying hu2, go_sem, hc2]
 simp [results, h, hp1', hp2', asAddr, hl1, hl2]
/-- what the loop of List holds besides -/
structure LK (w : World) (p : Nat) (bS : Nat) (zl zh : ZV) (r : Loop) (W : World) : Prop where
 bx : BxK w bS (p + 3) (p + 2) (p + 1) zl zh W
 r1 : W.heap[w.heap.size + 2]? = some (.cells #[.slice none 0 0] 23 (0, 0))
 r2 : W.heap[w.heap.size + 3]? = some (.cells #[.int .i64 0] 33 (0, 0))
 df : W.heap[p + 4]? = some (.deferred (some []))
 lp : W.heap[p + 5]? = some (.loop r)
theorem LK.mv {w : World} {p bS : Nat} {zl zh : ZV} {r r' : Loop} {W W' : World} (hp : w.heap.size + 4 = p) (h : LK w p bS zl zh r W) (hk : ∀ g, g < p + 6 → g < W.heap.size → g ≠ p + 5 → g ≠ p → W'.heap[g]? = W.heap[g]?) (hl : W'.heap[p + 5]? = some (.loop r')) (hb : Below w.heap.size w W') : LK w p bS zl zh r' W' := by
 have hlt : ∀ {g : Nat} {o : Obj}, W.heap[g]? = some o → g < W.heap.size := fun h => (Array.getElem?_eq_some_iff.1 h).1
 exact ⟨⟨hb, (hk _ (by omega) (hlt h.bx.s) (by omega) (by omega)).trans h.bx.s, (hk _ (by omega) h.bx.lo.lt (by omega) (by omega)).trans h.bx.lo, (hk _ (by omega) h.bx.hi.lt (by omega) (by omega)).trans h.bx.hi⟩, (hk _ (by omega) (hlt h.r1) (by omega) (by omega)).trans h.r1, (hk _ (by omega) (hlt h.r2) (by omega) (by omega)).trans h.r2, (hk _ (by omega) (hlt h.df) (by omega) (by omega)).trans h.df, hl⟩
theorem LK.below {w : World} {p bS : Nat} {zl zh : ZV} {r : Loop} {W W' : World} (hp : w.heap.size + 4 = p) (h : LK w p bS zl zh r W) (kb : Below W.heap.size W W') : LK w p bS zl zh r W' :=
 h.mv hp (fun g _ hg _ _ => kb.block g hg) ((kb.block _ (Array.getElem?_eq_some_iff.1 h.lp).1).trans h.lp) (grow_step kb h.bx.bel)
theorem LK.put {w : World} {p bS : Nat} {zl zh : ZV} {r : Loop} {W : World} (hp : w.heap.size + 4 = p) (h : LK w p bS zl zh r W) (r' : Loop) : LK w p bS zl zh r' (W.putObj (p + 5) (.loop r')) :=
 h.mv hp (fun g _ _ hne _ => World.putObj_heap_other hne) (World.putObj_heap_same (Array.getElem?_eq_some_iff.1 h.lp).1) (h.bx.bel.trans (bel_put _ (by omega)))
theorem LK.only {w : World} {p bS : Nat} {zl zh : ZV} {r : Loop} {W W' : World} {b : Nat} (hp : w.heap.size + 4 = p) (h : LK w p bS zl zh r W) (ho : Only b W W') (hb : b = p ∨ p + 6 ≤ b) : LK w p bS zl zh r W' :=
 h.mv hp (fun g _ _ _ _ => ho.block g (by omega)) ((ho.block _ (by omega)).trans h.lp) (h.bx.bel.trans (ho.below (by omega)))
theorem LK.grown {w : World} {p bS : Nat} {zl zh : ZV} {r : Loop} {W W' : World} {v : Value} (hp : w.heap.size + 4 = p) (h : LK w p bS zl zh r W) (hg : W.grownBy W' v.ownBlock) (hv : ∀ g, v.ownBlock = some g → p + 6 ≤ g) : LK w p bS zl zh r W' :=
 have hlt := (Array.getElem?_eq_some_iff.1 h.lp).1
 h.mv hp (fun g h1 h2 _ _ => hg.block g h2 fun e => by have := hv g e.symm; omega) ((hg.block _ hlt fun e => by have := hv _ e.symm; omega).trans h.lp) (below_grown h.bx.bel hg (fun g e => by have := hv g e; omega) (by omega))
/-- so much is listed -/
structure LB (p : Nat) (la : Option Addr) (n lc : Nat) (q : List ZV) (xs : List Int) (W : World) : Prop where
 st : W.heap[p]? = some (.cells #[.slice la n lc] 23 (0, 0))
 own : W.ownsRow (p + 6) 38 2 (.slice la n lc) n (encL ZV.enc q)
 nu : Prg W q xs
theorem LB.below {p : Nat} {la : Option Addr} {n lc : Nat} {q : List ZV} {xs : List Int} {W W' : World} (h : LB p la n lc q xs W) (k : Below W.heap.size W W') : LB p la n lc q xs W' := ⟨(k.block _ (Array.getElem?_eq_some_iff.1 h.st).1).trans h.st, own_below h.own k, h.nu.below k⟩
theorem LB.put {p : Nat} {la : Option Addr} {n lc : Nat} {q : List ZV} {xs : List Int} {W : World} {r : Loop} (h : LB p la n lc q xs W) (hl : W.heap[p + 5]? = some (.loop r)) (o : Obj) : LB p la n lc q xs (W.putObj (p + 5) o) :=
 ⟨(World.putObj_heap_other (by omega)).trans h.st, own_mv h.own fun g e => World.putObj_heap_other (by have := (own_blk h.own g e).1; omega), h.nu.blk (by simp [World.putObj]) (u32_put hl o)⟩
/-- what rounds of List may write -/
def LF (w : World) (p : Nat) (v : Value) : Nat → Prop := fun b => b = p ∨ b = p + 5 ∨ b = w.heap.size + 2 ∨ b = w.heap.size + 3 ∨ v.ownBlock = some b
def LJ (w : World) (p bS : Nat) (zl zh : ZV) (r : Loop) (xs : List Int) (F : Nat → Prop) (W : World) : Prop := ∃ la n lc q, F = LF w p (.slice la n lc) ∧ n = xs.length ∧ n ≤ 1000 ∧ LB p la n lc q xs W ∧ LK w p bS zl zh r W
/-- it is too long -/
structure LX (w : World) (p : Nat) (r : Loop) (W : World) : Prop where
 bel : Below w.heap.size w W
 r1 : W.heap[w.heap.size + 2]? = some (.cells #[.slice none 0 0] 23 (0, 0))
 r2 : W.heap[w.heap.size + 3]? = some (.cells #[.int .i64 2] 33 (0, 0))
 df : W.heap[p + 4]? = some (.deferred (some []))
 lp : W.heap[p + 5]? = some (.loop { r with state := .done, pending := some .ret })
theorem cntS_le2 (f : Int → Bool) {pre suf all : List (Int × Int)} {q : Int × Int} (h : pre ++ q :: suf = all) : cntS f pre + cntQ f q ≤ cntS f all := by
 subst h
 have := cntS_le f (pre ++ [q]) suf
 rw [cntS_snoc] at this
 rwa [List.append_assoc] at this
/-- what List answers -/
def LsO (w : World) (f : Int → Bool) (lo hi : Int) (e : Ending) (w' : World) : Prop := Below w.heap.size w w' ∧
 ((∃ a n c, e = .returned (.tuple #[.slice a n c, .int .i64 0]) ∧ n ≤ 1000 ∧ SN w' a n (memI f lo hi)) ∨ (e = .returned (.tuple #[.slice none 0 0, .int .i64 2]) ∧ 1000 < cntI f lo hi))
set_option maxRecDepth 100000 in
set_option maxHeartbeats 12800000 in
theorem List_n {w : World} {bS : Nat} {D : PD} {zl zh : ZV} {lo hi : Int} (hS : PS w bS D) (hf : D.cs.length ≤ 1073741823) (hlo : Zm w zl.s zl.a zl.l zl.c lo) (hll : zl.l ≤ 8589930000) (hhi : Zm w zh.s zh.a zh.l zh.c hi) (hhl : zh.l ≤ 8589930000) :
  Calls Tryz.prog 25 #[.pointer (some ⟨bS, 0, none⟩), .agg #[.bool zl.s, .slice zl.a zl.l zl.c], .agg #[.bool zh.s, .slice zh.a zh.l zh.c]] w fun e w' => LsO w (mem D) lo hi e w' := by
 refine (callsIn_wide (n := 3)).1 ?_
 refine callsIn_of_wp_marks Tryz.func25 rfl trivial ?_ rfl
 simp only [Tryz.ntmps25, List.size_toArray, List.length_cons, List.length_nil, Nat.reduceAdd, Nat.reduceSub, Array.replicate_succ, Array.replicate_zero, List.push_toArray, List.append_toArray, List.nil_append, List.cons_append]
 gi_upto_region 3 with (fail)
 have b0 : Below w.heap.size w ((((w.alloc (.cells #[.bool zl.s, .slice zl.a zl.l zl.c] 38)).alloc (.cells #[.bool zh.s, .slice zh.a zh.l zh.c] 38)).alloc (.cells #[.slice none 0 0] 23)).alloc (.cells #[.int .i64 0] 33)) := below_alloc' (below_alloc' (below_alloc' (below_alloc _ _) _) _) _
 have y0 := (zb_new w zl.s zl.a zl.l zl.c).below (below_alloc' (below_alloc' (below_alloc (w.alloc (.cells #[.bool zl.s, .slice zl.a zl.l zl.c] 38)) (.cells #[.bool zh.s, .slice zh.a zh.l zh.c] 38)) (.cells #[.slice none 0 0] 23)) (.cells #[.int .i64 0] 33))
 have y1 := (zb_new (w.alloc (.cells #[.bool zl.s, .slice zl.a zl.l zl.c] 38)) zh.s zh.a zh.l zh.c).below (below_alloc' (below_alloc _ (.cells #[.slice none 0 0] 23)) (.cells #[.int .i64 0] 33))
 have q1 := ((below_alloc _ (.cells #[.int .i64 0] 33)).block _ (by simp)).trans (heap_alloc_new ((w.alloc (.cells #[.bool zl.s, .slice zl.a zl.l zl.c] 38)).alloc (.cells #[.bool zh.s, .slice zh.a zh.l zh.c] 38)) (.cells #[.slice none 0 0] 23))
 have q2 := heap_alloc_new (((w.alloc (.cells #[.bool zl.s, .slice zl.a zl.l zl.c] 38)).alloc (.cells #[.bool zh.s, .slice zh.a zh.l zh.c] 38)).alloc (.cells #[.slice none 0 0] 23)) (.cells #[.int .i64 0] 33)
 rw [show (w.alloc (.cells #[.bool zl.s, .slice zl.a zl.l zl.c] 38)).heap.size = w.heap.size + 1 by simp] at y1
 rw [show ((w.alloc (.cells #[.bool zl.s, .slice zl.a zl.l zl.c] 38)).alloc (.cells #[.bool zh.s, .slice zh.a zh.l zh.c] 38)).heap.size = w.heap.size + 2 by simp] at q1
 rw [show (((w.alloc (.cells #[.bool zl.s, .slice zl.a zl.l zl.c] 38)).alloc (.cells #[.bool zh.s, .slice zh.a zh.l zh.c] 38)).alloc (.cells #[.slice none 0 0] 23)).heap.size = w.heap.size + 3 by simp] at q2
 have hs0 : ((((w.alloc (.cells #[.bool zl.s, .slice zl.a zl.l zl.c] 38)).alloc (.cells #[.bool zh.s, .slice zh.a zh.l zh.c] 38)).alloc (.cells #[.slice none 0 0] 23)).alloc (.cells #[.int .i64 0] 33)).heap.size = w.heap.size + 4 := by simp
 generalize (((w.alloc (.cells #[.bool zl.s, .slice zl.a zl.l zl.c] 38)).alloc (.cells #[.bool zh.s, .slice zh.a zh.l zh.c] 38)).alloc (.cells #[.slice none 0 0] 23)).alloc (.cells #[.int .i64 0] 33) = w1 at *
 obtain ⟨p, hpw⟩ : ∃ p, w1.heap.size = p := ⟨_, rfl⟩
 have hp : w.heap.size + 4 = p := by omega
 have ba := below_alloc w1 (.cells #[.slice none 0 0] 23)
 have x0 := y0.below ba
 have x1 := y1.below ba
 have t1 := (ba.block _ (by omega)).trans q1
 have t2 := (ba.block _ (by omega)).trans q2
 have xt := heap_alloc_new w1 (.cells #[.slice none 0 0] 23)
 have b2 := grow_step ba b0
 have e0 := x0.c0
 have e1 := x0.c1
 have e2 := x1.c0
 have e3 := x1.c1
 have hs2 : (w1.alloc (.cells #[.slice none 0 0] 23)).heap.size = p + 1 := by simp [hpw]
 rw [hpw] at xt
 replace hp := hide hp
 replace t1 := hide t1
 replace t2 := hide t2
 replace hs0 := hide hs0
 clear y0 y1 q1 q2 b0 ba
 gi_wp2
 try rw [hpw]
 generalize w1.alloc (.cells #[.slice none 0 0] 23) = w2 at *
 refine ⟨trivial, (callsIn_wide.2 (pieces_n w2 bS zl zh)).mono ?_⟩
 clear e0 e1 e2 e3 x0 x1 hs0
 rintro e w3 ⟨rfl, rfl⟩
 rw [hs2]
 have bb : Below w2.heap.size w2 (((w2.alloc (.cells #[.pointer (some ⟨bS, 0, none⟩)] 25)).alloc (.cells #[.bool zl.s, .slice zl.a zl.l zl.c] 38)).alloc (.cells #[.bool zh.s, .slice zh.a zh.l zh.c] 38)) := below_alloc' (below_alloc' (below_alloc _ _) _) _
 have s3 := ((below_alloc' (below_alloc (w2.alloc (.cells #[.pointer (some ⟨bS, 0, none⟩)] 25)) (.cells #[.bool zl.s, .slice zl.a zl.l zl.c] 38)) (.cells #[.bool zh.s, .slice zh.a zh.l zh.c] 38)).block w2.heap.size (by simp)).trans (heap_alloc_new w2 (.cells #[.pointer (some ⟨bS, 0, none⟩)] 25))
 have x3 := (zb_new (w2.alloc (.cells #[.pointer (some ⟨bS, 0, none⟩)] 25)) zl.s zl.a zl.l zl.c).below (below_alloc _ (.cells #[.bool zh.s, .slice zh.a zh.l zh.c] 38))
 have x4 := zb_new ((w2.alloc (.cells #[.pointer (some ⟨bS, 0, none⟩)] 25)).alloc (.cells #[.bool zl.s, .slice zl.a zl.l zl.c] 38)) zh.s zh.a zh.l zh.c
 rw [hs2] at s3
 rw [show (w2.alloc (.cells #[.pointer (some ⟨bS, 0, none⟩)] 25)).heap.size = p + 2 by simp [hs2]] at x3
 rw [show ((w2.alloc (.cells #[.pointer (some ⟨bS, 0, none⟩)] 25)).alloc (.cells #[.bool zl.s, .slice zl.a zl.l zl.c] 38)).heap.size = p + 3 by simp [hs2]] at x4
 have hs3 : (((w2.alloc (.cells #[.pointer (some ⟨bS, 0, none⟩)] 25)).alloc (.cells #[.bool zl.s, .slice zl.a zl.l zl.c] 38)).alloc (.cells #[.bool zh.s, .slice zh.a zh.l zh.c] 38)).heap.size = p + 4 := by simp [hs2]
 have hlt : ∀ {g : Nat} {o : Obj}, w2.heap[g]? = some o → g < w2.heap.size := fun h => (Array.getElem?_eq_some_iff.1 h).1
 have t3 := (bb.block _ (hlt t1.out)).trans t1.out
 have t4 := (bb.block _ (hlt t2.out)).trans t2.out
 have xt5 := (bb.block _ (hlt xt)).trans xt
 have b3 := grow_step bb b2
 generalize ((w2.alloc (.cells #[.pointer (some ⟨bS, 0, none⟩)] 25)).alloc (.cells #[.bool zl.s, .slice zl.a zl.l zl.c] 38)).alloc (.cells #[.bool zh.s, .slice zh.a zh.l zh.c] 38) = w4 at *
 clear bb t1 t2 xt b2 hlt
 gi_wp2
 refine range_enter rfl (enters_of Tryz.func111 (by kernel_rfl) rfl) (fun fn r hr => ?_)
 have b8 := below_alloc' (below_alloc w4 (.deferred (some []))) (.loop r)
 have hlt : ∀ {g : Nat} {o : Obj}, w4.heap[g]? = some o → g < w4.heap.size := fun h => (Array.getElem?_eq_some_iff.1 h).1
 have hJ0 : LJ w p bS zl zh r [] (LF w p (.slice none 0 0)) ((w4.alloc (.deferred (some []))).alloc (.loop r)) := by
  refine ⟨none, 0, 0, [], rfl, rfl, by decide, ⟨(b8.block _ (hlt xt5)).trans xt5, World.ownsRow_nil _ _ _ _, prg_nil _⟩, ⟨grow_step b8 b3, (b8.block _ (hlt s3)).trans s3, x3.below b8, x4.below b8⟩, (b8.block _ (hlt t3)).trans t3, (b8.block _ (hlt t4)).trans t4, ?_, ?_⟩
  ·have h1 := heap_alloc_new w4 (.deferred (some []))
   rw [hs3] at h1
   exact ((below_alloc _ (.loop r)).block _ (by simp [hs3])).trans h1
  ·have h1 := heap_alloc_new (w4.alloc (.deferred (some []))) (.loop r)
   rw [show (w4.alloc (.deferred (some []))).heap.size = p + 5 by simp [hs3]] at h1
   exact h1
 have hs5 : ((w4.alloc (.deferred (some []))).alloc (.loop r)).heap.size = p + 6 := by simp [hs3]
 rw [hs3]
 generalize (w4.alloc (.deferred (some []))).alloc (.loop r) = W0 at *
 clear s3 x3 x4 t3 t4 xt5 b3 b8 hlt
 have hwf := hS.wf
 have hall : ∀ pre x n suf, lo ≤ hi → pre ++ (x, n) :: suf = pcs hi D.cs lo → cntS (mem D) pre + cntQ (mem D) (x, n) ≤ cntI (mem D) lo hi := fun pre x n suf hle h => by
  rw [← cntS_pcs (mem D) (cs := D.cs) hle]
  exact cntS_le2 _ h
 refine (pieces1_any (w0 := w) (bS := bS) (sB := p + 1) (loB := p + 2) (hiB := p + 3) (l := p + 5) (L := 8589930000) (D := D) (zl := zl) (zh := zh) (lo := lo) (hi := hi) hS hf hlo hll (by decide) (by decide) hhi (by omega)
  (fun F pre W => LJ w p bS zl zh r (memS (mem D) pre) F W) (fun W => LX w p r W ∧ 1000 < cntI (mem D) lo hi) ?_ ?_ ?_ ?_ (LF w p (.slice none 0 0)) hJ0).mono ?_
 ·rintro F pre W ⟨la, n, lc, q, rfl, -, -, hB, hC⟩
  have hpo := hp.out
  have hob : ∀ g, (Value.slice la n lc).ownBlock = some g → p + 6 ≤ g ∧ g < W.heap.size := fun g e => ⟨(own_blk hB.own g e).1, (own_blk hB.own g e).2.lt⟩
  refine ⟨hC.bx, ?_, ?_, ?_, ?_⟩
  ·rintro (h | h | h | h | h) <;> first | omega | (have := hob _ h; omega)
  ·rintro (h | h | h | h | h) <;> first | omega | (have := hob _ h; omega)
  ·rintro (h | h | h | h | h) <;> first | omega | (have := hob _ h; omega)
  ·rintro b (rfl | rfl | rfl | rfl | h)
   ·exact ⟨(Array.getElem?_eq_some_iff.1 hB.st).1, fun h => own_u32 h hB.st (by decide) rfl⟩
   ·refine ⟨(Array.getElem?_eq_some_iff.1 hC.lp).1, fun ⟨cur, h⟩ => ?_⟩
    rw [hC.lp] at h
    cases h
   ·exact ⟨(Array.getElem?_eq_some_iff.1 hC.r1).1, fun h => own_u32 h hC.r1 (by decide) rfl⟩
   ·exact ⟨(Array.getElem?_eq_some_iff.1 hC.r2).1, fun h => own_u32 h hC.r2 (by decide) rfl⟩
   ·refine ⟨(hob _ h).2, fun ⟨cur, h2⟩ => ?_⟩
    exact Own.ne (own_blk hB.own _ h).2 h2 (by decide) rfl
 ·rintro F pre W W' ⟨la, n, lc, q, rfl, h1, h2, hB, hC⟩ k
  exact ⟨la, n, lc, q, rfl, h1, h2, hB.below k, hC.below hp.out k⟩
 ·rintro F pre W W' bf ⟨la, n, lc, q, rfl, h1, h2, hB, hC⟩ hbf hFf ⟨s, a, l, c, hy⟩ ho
  rw [hs5] at hbf
  exact ⟨la, n, lc, q, rfl, h1, h2, ⟨(ho.block _ (by omega)).trans hB.st, own_only hB.own ho fun g e e2 => hFf (by subst e2; exact .inr (.inr (.inr (.inr e)))), hB.nu.blk (Nat.le_of_eq ho.size.symm) (u32_only ho hy (by decide))⟩, hC.only hp.out ho (.inr hbf)⟩
 ·rintro F pre x n pc W ⟨la, nn, lc, q, rfl, hnn, hn3, hB, hC⟩ hle ⟨suf, hsuf⟩ hpc hpcl
  obtain ⟨hn1, hcn, hpl⟩ := pcs_one hwf.up hle hsuf
  have hcm := hall pre x n suf hle hsuf
  clear hall hsuf hs2 hs3
  have hpo := hp.out
  have hob0 : ∀ g, (Value.slice la nn lc).ownBlock = some g → p + 6 ≤ g ∧ g < W.heap.size := fun g e => ⟨(own_blk hB.own g e).1, (own_blk hB.own g e).2.lt⟩
  suffices key : ∀ R : Ending → World → Prop, Hid (∀ W', (∃ F', LJ w p bS zl zh r (memS (mem D) (pre ++ [(x, n)])) F' W' ∧ ∀ b, F' b → LF w p (.slice la nn lc) b ∨ W.heap.size ≤ b) → Kb (LF w p (.slice la nn lc)) W W' → R (.returned (.bool true)) W') → Hid (∀ W', LX w p r W' → 1000 < cntI (mem D) lo hi → Kb (LF w p (.slice la nn lc)) W W' → R (.returned (.bool false)) W') → YieldAt Fence.wide (3 - 1 - 1) Tryz.prog (p + 5) #[pc.val] W R from key _ (hide fun W' ⟨F', h1, h2⟩ hk => ⟨hk, .inl ⟨rfl, F', h1, h2⟩⟩) (hide fun W' h1 h2 hk => ⟨hk, .inr ⟨rfl, h1, h2⟩⟩)
  intro R hR1 hR2
  refine round_at hr hC.lp rfl ?_
  clear hJ0
  gi_wp2
  have ba := below_alloc W (.cells #[.bool pc.f.s, .slice pc.f.a pc.f.l pc.f.c, .int .i64 pc.per, .slice pc.ia pc.il pc.ic, .bool pc.h.s, .slice pc.h.a pc.h.l pc.h.c, .int .i64 pc.r] 102)
  have yp : PB _ W.heap.size pc := heap_alloc_new W (.cells #[.bool pc.f.s, .slice pc.f.a pc.f.l pc.f.c, .int .i64 pc.per, .slice pc.ia pc.il pc.ic, .bool pc.h.s, .slice pc.h.a pc.h.l pc.h.c, .int .i64 pc.r] 102)
  have hlW : p + 5 < W.heap.size := (Array.getElem?_eq_some_iff.1 hC.lp).1
  have hCa := hC.below hpo ba
  have hBa := hB.below ba
  have hpa := hpc.kc (ck_below ba)
  refine ⟨hCa.lp, ?_⟩
  have hCc := hCa.put hpo { r with state := .busy }
  have hBc := hBa.put hCa.lp (.loop { r with state := .busy })
  have hpc2 := hpa.kc (ck_put hCa.lp (.loop { r with state := .busy }))
  have ypc : PB ((W.alloc (.cells #[.bool pc.f.s, .slice pc.f.a pc.f.l pc.f.c, .int .i64 pc.per, .slice pc.ia pc.il pc.ic, .bool pc.h.s, .slice pc.h.a pc.h.l pc.h.c, .int .i64 pc.r] 102)).putObj (p + 5) (.loop { r with state := .busy })) W.heap.size pc := (World.putObj_heap_other (by omega)).trans yp
  have hkc : ∀ k, k < W.heap.size → ¬ LF w p (.slice la nn lc) k → ((W.alloc (.cells #[.bool pc.f.s, .slice pc.f.a pc.f.l pc.f.c, .int .i64 pc.per, .slice pc.ia pc.il pc.ic, .bool pc.h.s, .slice pc.h.a pc.h.l pc.h.c, .int .i64 pc.r] 102)).putObj (p + 5) (.loop { r with state := .busy })).heap[k]? = W.heap[k]? := fun k hk hF => (World.putObj_heap_other fun e => hF (.inr (.inl e))).trans (ba.block k hk)
  generalize ((W.alloc (.cells #[.bool pc.f.s, .slice pc.f.a pc.f.l pc.f.c, .int .i64 pc.per, .slice pc.ia pc.il pc.ic, .bool pc.h.s, .slice pc.h.a pc.h.l pc.h.c, .int .i64 pc.r] 102)).putObj (p + 5) (.loop { r with state := .busy })) = Wc at *
  have hWc := ypc.lt
  clear ba yp hCa hBa hpa hC hB hpc
  obtain ⟨bp, hbp⟩ : ∃ bp, W.heap.size = bp := ⟨_, rfl⟩
  rw [hbp] at ypc hlW hWc hob0 ⊢
  have hwr : IntKind.i64.wrap (1000 - (nn : Int)) = 1000 - (nn : Int) := by rw [IntKind.wrap_i64]; omega
  have hnn2 : Hid (nn = cntS (mem D) pre) := hide (by rw [hnn, memS_len])
  replace hnn := hide hnn
  replace hbp := hide hbp
  replace hkc := hide hkc
  replace hp := hide hpo
  replace hcm := hide hcm
  replace hcn := hide hcn
  replace hob0 := hide hob0
  clear hpo hpl
  gi_upto_region 6 with (fail)
  refine region_G (S := (fun w' => (w'.cell? ⟨bp, 0, none⟩ = some (.bool pc.f.s) ∧ w'.cell? ⟨bp, 1, none⟩ = some (.slice pc.f.a pc.f.l pc.f.c) ∧ w'.cell? ⟨bp, 2, none⟩ = some (.int .i64 pc.per) ∧ w'.cell? ⟨bp, 3, none⟩ = some (.slice pc.ia pc.il pc.ic) ∧ w'.cell? ⟨bp, 4, none⟩ = some (.bool pc.h.s) ∧ w'.cell? ⟨bp, 5, none⟩ = some (.slice pc.h.a pc.h.l pc.h.c) ∧ w'.cell? ⟨bp, 6, none⟩ = some (.int .i64 pc.r)) ∧ w'.cell? ⟨p, 0, none⟩ = some (.slice la nn lc))) (by kernel_rfl) (fun _ => trivial) (by decide +kernel) (⟨(ypc.below (grow_drew (Below.refl _ _))).all, cell_of_row _ p 0 _ _ (0, 0) (hBc.below (grow_drew (Below.refl _ _))).st⟩) (fun hHeld => ?_)
  show anyG _ _ _ _ _ _ _ 8 _ _ _
  have kW := grow_drew (Below.refl Wc.heap.size Wc)
  have hCW := hCc.below hp.out kW
  have hBW := hBc.below kW
  have ypW := ypc.below kW
  have hpW := hpc2.kc (ck_below kW)
  clear hCc hBc ypc hpc2
  generalize Wc.drew = wQ at *
  refine anyG_take (i := 0) (oi := ⟨some 17, _, _, _, _, _⟩) (v := ?_) rfl (by decide +kernel) (by decide +kernel) (by decide +kernel) (fun _ _ _ h => h) (Or.inl ⟨by rfl, ?_⟩) (by assumption) ?_
  rotate_left
  ·intro wq hSw; (try dsimp only at hSw); go_simp; (try with_reducible rfl)
  (try simp only [Act.put, List.setIfInBounds_toArray, List.set_cons_zero, List.set_cons_succ])
  refine anyG_take (i := 2) (oi := ⟨some 19, _, _, _, _, _⟩) (v := ?_) rfl (by decide +kernel) (by decide +kernel) (by decide +kernel) (fun _ _ _ h => h) (Or.inl ⟨by rfl, ?_⟩) (by assumption) ?_
  rotate_left
  ·intro wq hSw; (try dsimp only at hSw); go_simp; (try with_reducible rfl)
  (try simp only [Act.put, List.setIfInBounds_toArray, List.set_cons_zero, List.set_cons_succ])
  refine anyG_take (i := 3) (oi := ⟨some 20, _, _, _, _, _⟩) (v := ?_) rfl (by decide +kernel) (by decide +kernel) (by decide +kernel) (fun _ _ _ h => h) (Or.inl ⟨by rfl, ?_⟩) (by assumption) ?_
  rotate_left
  ·intro wq hSw; (try dsimp only at hSw); go_simp; (try with_reducible rfl)
  (try simp only [Act.put, List.setIfInBounds_toArray, List.set_cons_zero, List.set_cons_succ])
  refine anyG_take (i := 4) (oi := ⟨some 21, _, _, _, _, _⟩) (v := ?_) rfl (by decide +kernel) (by decide +kernel) (by decide +kernel) (fun _ _ _ h => h) (Or.inl ⟨by rfl, ?_⟩) (by assumption) ?_
  rotate_left
  ·intro wq hSw; (try dsimp only at hSw); go_simp; (try with_reducible rfl)
  (try simp only [Act.put, List.setIfInBounds_toArray, List.set_cons_zero, List.set_cons_succ])
  refine anyG_ready (rs := [1]) (by decide +kernel) (by simp) ?_
  refine ReadyG.cons (i := 1) (o := ⟨some 18, _, _, _, _, _⟩) (by decide +kernel) rfl (fun K hK => ?_) ReadyG.nil
  go_simp
  refine ⟨trivial, CallsIn.inRound _ ((callsIn_wide.2 (count_k hwf.p1 hwf.p2 hpW (by omega) hcn.out)).mono ?_)⟩
  rintro e wA ⟨sA, aA, lA, cA, rfl, hzA, hlA, kA⟩
  have hCW := hCW.below hp.out kA
  have hBW := hBW.below kA
  have ypW := ypW.below kA
  have hpW := hpW.kc (ck_below kA)
  have kW := grow_step kA kW
  try gi_wp2
  refine hK.out _ _ ?_ ?_
  ·first | with_reducible exact trivial | ((try dsimp only); exact ⟨ypW.all, cell_of_row _ p 0 _ _ (0, 0) hBW.st⟩)
  clear hK K hHeld; intro hHeld
  (try simp only [Act.put, List.setIfInBounds_toArray, List.set_cons_zero, List.set_cons_succ])
  refine anyG_ready (rs := [5]) (by decide +kernel) (by simp) ?_
  refine ReadyG.cons (i := 5) (o := ⟨some 22, _, _, _, _, _⟩) (by decide +kernel) rfl (fun K hK => ?_) ReadyG.nil
  go_simp
  refine ⟨trivial, CallsIn.inRound _ ((callsIn_wide.2 (zof_n (1000 - (nn : Int)) (by omega) (by omega) _)).mono ?_)⟩
  rintro e wB ⟨sB2, aB, lB, cB, rfl, hzB, kB, hlB⟩
  have hCW := hCW.below hp.out kB
  have hBW := hBW.below kB
  have ypW := ypW.below kB
  have hpW := hpW.kc (ck_below kB)
  try have hzA := hzA.below kB
  have kW := grow_step kB kW
  try gi_wp2
  refine hK.out _ _ ?_ ?_
  ·first | with_reducible exact trivial | ((try dsimp only); exact ⟨ypW.all, cell_of_row _ p 0 _ _ (0, 0) hBW.st⟩)
  clear hK K hHeld; intro hHeld
  (try simp only [Act.put, List.setIfInBounds_toArray, List.set_cons_zero, List.set_cons_succ])
  refine anyG_ready (rs := [6]) (by decide +kernel) (by simp) ?_
  refine ReadyG.cons (i := 6) (o := ⟨some 23, _, _, _, _, _⟩) (by decide +kernel) rfl (fun K hK => ?_) ReadyG.nil
  go_simp
  refine ⟨trivial, CallsIn.inRound _ ((callsIn_wide.2 (zcmp_n hzA.zm hzB.zm (by omega) (by omega))).mono ?_)⟩
  rintro e wD ⟨rfl, kD⟩
  have hCW := hCW.below hp.out kD
  have hBW := hBW.below kD
  have ypW := ypW.below kD
  have hpW := hpW.kc (ck_below kD)
  try have hzA := hzA.below kD
  try have hzB := hzB.below kD
  have kW := grow_step kD kW
  try gi_wp2
  refine hK.out _ _ ?_ ?_
  ·first | with_reducible exact trivial | ((try dsimp only); exact ⟨ypW.all, cell_of_row _ p 0 _ _ (0, 0) hBW.st⟩)
  clear hK K hHeld; intro hHeld
  (try simp only [Act.put, List.setIfInBounds_toArray, List.set_cons_zero, List.set_cons_succ])
  refine anyG_take (i := 7) (oi := ⟨some 24, _, _, _, _, _⟩) (v := ?_) rfl (by decide +kernel) (by decide +kernel) (by decide +kernel) (fun _ _ _ h => h) (Or.inl ⟨by rfl, ?_⟩) (by assumption) ?_
  rotate_left
  ·intro wq hSw; (try dsimp only at hSw); go_simp; (try with_reducible rfl)
  (try simp only [Act.put, List.setIfInBounds_toArray, List.set_cons_zero, List.set_cons_succ])
  refine anyG_done ?_ ?_ _
  ·decide +kernel
  clear hHeld
  have hgt := (cmpI_lt ((cntQ (mem D) (x, n) : Nat) : Int) (1000 - (nn : Int))).2.2
  generalize cmpI ((cntQ (mem D) (x, n) : Nat) : Int) (1000 - (nn : Int)) = v at *
  have hC8 := hide hCW
  have hB8 := hide hBW
  have yp8 := hide ypW
  have hp8 := hide hpW
  have kW6 := hide kW
  clear hCW hBW ypW hpW hzA hzB kW
  clear hwr hpw
  generalize htb : decide (0 < v) = tb
  cases tb with
  | true =>
   have hbig : 1000 - (nn : Int) < ((cntQ (mem D) (x, n) : Nat) : Int) := hgt.1 (of_decide_eq_true htb)
   have hpo := hp.out
   have c1 : wD.cell? ⟨w.heap.size + 1 + 1, 0, none⟩ = some (.slice none 0 0) := cell_of_row wD (w.heap.size + 2) 0 _ _ (0, 0) hC8.out.r1
   have c2 : wD.cell? ⟨w.heap.size + 1 + 1 + 1, 0, none⟩ = some (.int .i64 0) := cell_of_row wD (w.heap.size + 3) 0 _ _ (0, 0) hC8.out.r2
   have f1 : wD.frozen? ⟨w.heap.size + 1 + 1, 0, none⟩ = false := frozen_of_row wD (w.heap.size + 2) 0 _ _ hC8.out.r1
   have f2 : wD.frozen? ⟨w.heap.size + 1 + 1 + 1, 0, none⟩ = false := frozen_of_row wD (w.heap.size + 3) 0 _ _ hC8.out.r2
   have o1 := Only.set (w.heap.size + 2) 0 wD (.slice none 0 0)
   have o2 := Only.set (w.heap.size + 3) 0 (wD.setCell ⟨w.heap.size + 2, 0, none⟩ (.slice none 0 0)) (.int .i64 2)
   have h1 := heap_setCell_same wD (w.heap.size + 2) 0 _ 23 (.slice none 0 0) hC8.out.r1
   have h1' := (o2.block _ (by omega)).trans h1
   have h2' := heap_setCell_same (wD.setCell ⟨w.heap.size + 2, 0, none⟩ (.slice none 0 0)) (w.heap.size + 3) 0 _ 33 (.int .i64 2) ((o1.block _ (by omega)).trans hC8.out.r2)
   have hdf := (o2.block _ (by omega)).trans ((o1.block _ (by omega)).trans hC8.out.df)
   have hlp := hide ((o2.block _ (by omega)).trans ((o1.block _ (by omega)).trans hC8.out.lp))
   have hbl := (hC8.out.bx.bel.trans (o1.below (by omega))).trans (o2.below (by omega))
   have hX : Hid (LX w p r (((wD.setCell ⟨w.heap.size + 2, 0, none⟩ (.slice none 0 0)).setCell ⟨w.heap.size + 3, 0, none⟩ (.int .i64 2)).putObj (p + 5) (.loop { r with state := .done, pending := some .ret }))) := hide ⟨hbl.trans (bel_put _ (by omega)), (World.putObj_heap_other (by omega)).trans h1', (World.putObj_heap_other (by omega)).trans h2', (World.putObj_heap_other (by omega)).trans hdf, World.putObj_heap_same (Array.getElem?_eq_some_iff.1 hlp.out).1⟩
   have hK9 : Hid (Kb (LF w p (.slice la nn lc)) W (((wD.setCell ⟨w.heap.size + 2, 0, none⟩ (.slice none 0 0)).setCell ⟨w.heap.size + 3, 0, none⟩ (.int .i64 2)).putObj (p + 5) (.loop { r with state := .done, pending := some .ret }))) := hide ⟨by
     have := kW6.out.size
     have := o1.size
     have := o2.size
     have := hbp.out
     simp only [World.putObj, Array.size_setIfInBounds]
     omega, fun k hk hF => by
     have := kW6.out.size
     have hb := hbp.out
     rw [World.putObj_heap_other (fun e => hF (.inr (.inl e))), o2.block k (fun e => hF (.inr (.inr (.inr (.inl e))))), o1.block k (fun e => hF (.inr (.inr (.inl e)))), kW6.out.block k (by omega)]
     exact hkc.out k (by omega) hF⟩
   have hlong : Hid (1000 < cntI (mem D) lo hi) := hide (by have := hcm.out; have := hnn2.out; omega)
   clear hgt hbig htb o1 o2 h1 h1' h2' hdf hbl hC8 hB8 yp8 hp8 hpo
   gi_wp2
   exact ⟨hlp.out, hR2.out _ hX.out hlong.out hK9.out⟩
  | false =>
   have hbig : ¬ (1000 - (nn : Int) < ((cntQ (mem D) (x, n) : Nat) : Int)) := fun h => of_decide_eq_false htb (hgt.2 h)
   have hfew : cntQ (mem D) (x, n) ≤ 1000 ∧ nn + cntQ (mem D) (x, n) ≤ 1000 := by omega
   clear hgt hbig htb
   gi_upto_region 8 with (fail)
   refine region_G (S := (fun w' => w'.cell? ⟨bp, 0, none⟩ = some (.bool pc.f.s) ∧ w'.cell? ⟨bp, 1, none⟩ = some (.slice pc.f.a pc.f.l pc.f.c) ∧ w'.cell? ⟨bp, 2, none⟩ = some (.int .i64 pc.per) ∧ w'.cell? ⟨bp, 3, none⟩ = some (.slice pc.ia pc.il pc.ic) ∧ w'.cell? ⟨bp, 4, none⟩ = some (.bool pc.h.s) ∧ w'.cell? ⟨bp, 5, none⟩ = some (.slice pc.h.a pc.h.l pc.h.c) ∧ w'.cell? ⟨bp, 6, none⟩ = some (.int .i64 pc.r))) (by kernel_rfl) (fun _ => trivial) (by decide +kernel) ((yp8.out.below (grow_drew (Below.refl _ _))).all) (fun hHeld => ?_)
   show anyG _ _ _ _ _ _ _ 5 _ _ _
   have kW := grow_drew (Below.refl wD.heap.size wD)
   have hCW := hC8.out.below hp.out kW
   have hBW := hB8.out.below kW
   have ypW := yp8.out.below kW
   have hpW := hp8.out.kc (ck_below kW)
   have kA0 := kW
   generalize hwA0 : wD = wA0 at *
   generalize wA0.drew = wQ at *
   repeat' first
    | with_reducible exact ReadyG.nil
    | (
     refine anyG_take (i := 1) (oi := ⟨some 26, _, _, _, _, _⟩) (v := ?_) rfl (by decide +kernel) (by decide +kernel) (by decide +kernel) (fun _ _ _ h => h) (Or.inl ⟨by rfl, ?_⟩) (by assumption) ?_
     rotate_left
     ·intro wq hSw; (try dsimp only at hSw); go_simp; (try with_reducible rfl)
     (try simp only [Act.put, List.setIfInBounds_toArray, List.set_cons_zero, List.set_cons_succ]))
    | (refine anyG_ready (rs := [0, 2]) ?_ ?_ ?_; decide +kernel; simp)
    | (refine anyG_ready (rs := [2]) ?_ ?_ ?_; decide +kernel; simp)
    | (refine anyG_ready (rs := [3]) ?_ ?_ ?_; decide +kernel; simp)
    | (refine anyG_ready (rs := [4]) ?_ ?_ ?_; decide +kernel; simp)
    | (refine anyG_ready (rs := [0]) ?_ ?_ ?_; decide +kernel; simp)
    | (
     first
      | (
       refine ReadyG.cons (i := 0) (o := ⟨some 25, _, _, _, _, _⟩) (by decide +kernel) rfl (fun K hK => ?_) ?_
       have f0 := cell_of_row _ p 0 _ _ (0, 0) hBW.st
       go_simp)
      | (
       refine ReadyG.cons (i := 2) (o := ⟨some 27, _, _, _, _, _⟩) (by decide +kernel) rfl (fun K hK => ?_) ?_
       go_simp
       refine ⟨trivial, CallsIn.inRound _ ((callsIn_wide.2 (members_n hwf.p1 hwf.p2 hpW (by omega) hcn.out hpcl (by omega))).mono ?_)⟩
       rintro e wA ⟨ma, mc, mm, mq, rfl, hsrc, kA⟩
       have hCW := hCW.below hp.out kA
       have hBW := hBW.below kA
       have ypW := ypW.below kA
       have hpW := hpW.kc (ck_below kA)
       have kW := grow_step kA kW
       have kA0 := grow_step kA kA0
       try gi_wp2)
      | (
       refine ReadyG.cons (i := 3) (o := ⟨some 28, _, _, _, _, _⟩) (by decide +kernel) rfl (fun K hK => ?_) ?_
       have hml : Hid (mm = cntQ (mem D) (x, n)) := hide (by rw [← hsrc.1, hsrc.2.1.len, memQ_len])
       have hrun := runN hBW.own hsrc (by have := hml.out; omega) (by have := ypW.lt; omega)
       refine anyG_append (fun _ => trivial) rfl _ _ 23 rfl (.slice la nn lc) (.slice ma mm mc) rfl rfl _ (hrun _) ?_
       rintro v7 w7 ⟨o7, g7, hat7⟩
       have hob := own_blk hBW.own
       have qW := (hBW.nu.app hsrc.2.1).blk g7.size (u32_grown g7 (fun g e => (hob g e).2) (by decide))
       have sW := (g7.block _ (Array.getElem?_eq_some_iff.1 hBW.st).1 fun e => by have := (hob _ e.symm).1; omega).trans hBW.st
       have hCW := hCW.grown hp.out g7 (fun g e => (hob g e).1)
       have ypW : PB w7 bp pc := (g7.block _ ypW.lt fun e => by have := (hob0.out _ e.symm).2; omega).trans ypW
       have kG : ∀ k, k < wA0.heap.size → (Value.slice la nn lc).ownBlock ≠ some k → w7.heap[k]? = wA0.heap[k]? := fun k hk hne => (g7.block k (by have := kA0.size; omega) (fun e => hne e.symm)).trans (kA0.block k hk)
       have hg7 := g7.size
       have hsz7 := kA0.size
       obtain ⟨-, la7, lc7, rfl, -⟩ := own_any (by decide) zv_len o7
       clear hob g7 hsrc hBW hpW hrun)
      | (
       refine ReadyG.cons (i := 4) (o := ⟨none, _, _, _, _, _⟩) (by decide +kernel) rfl (fun K hK => ?_) ?_
       have f0 := cell_of_row _ p 0 _ _ (0, 0) sW
       have f1 := frozen_of_row _ p 0 _ _ sW
       have oS := Only.set p 0 w7 (.slice la7 (nn + mm) lc7)
       have hs8 := heap_setCell_same w7 p 0 _ 23 (.slice la7 (nn + mm) lc7) sW
       have qW := qW.blk (Nat.le_of_eq oS.size.symm) (u32_only oS sW (by decide))
       have hCW := hCW.only hp.out oS (.inl rfl)
       have ypW := ypW.only oS (by omega)
       have o7 := own_only o7 oS (fun g e => by have := (own_blk o7 g e).1; omega)
       go_simp
       clear sW f0 f1)
     refine hK.out _ _ ?_ ?_
     ·first | with_reducible exact trivial | ((try dsimp only); exact ypW.all)
     clear hK K hHeld; intro hHeld
     (try simp only [Act.put, List.setIfInBounds_toArray, List.set_cons_zero, List.set_cons_succ]))
   all_goals
    refine anyG_done ?_ ?_ _
    ·decide +kernel
    clear hHeld
    have hpo := hp.out
    have hbo := hbp.out
    have hC9 := hCW.put hpo { r with state := .ready, pending := none }
    have hB8 : LB p la7 (nn + mm) lc7 _ _ _ := ⟨hs8, o7, qW⟩
    have hB9 := hB8.put hCW.lp (.loop { r with state := .ready, pending := none })
    have hK9 : Kb (LF w p (.slice la nn lc)) W ((w7.setCell ⟨p, 0, none⟩ (.slice la7 (nn + mm) lc7)).putObj (p + 5) (.loop { r with state := .ready, pending := none })) := ⟨by
     have h1 := oS.size
     have h2 := kW6.out.size
     simp only [World.putObj, Array.size_setIfInBounds]
     omega, fun k hk hF => by
     have h2 := kW6.out.size
     rw [World.putObj_heap_other (fun e => hF (.inr (.inl e))), oS.block k (fun e => hF (.inl e)), kG k (by omega) (fun e => hF (.inr (.inr (.inr (.inr e))))), kW6.out.block k (by omega)]
     exact hkc.out k (by omega) hF⟩
    have hFF : ∀ b, LF w p (.slice la7 (nn + mm) lc7) b → LF w p (.slice la nn lc) b ∨ W.heap.size ≤ b := by
     have h2 := kW6.out.size
     rintro b (h | h | h | h | h)
     ·exact .inl (.inl h)
     ·exact .inl (.inr (.inl h))
     ·exact .inl (.inr (.inr (.inl h)))
     ·exact .inl (.inr (.inr (.inr (.inl h))))
     ·rcases hat7 with e | e
      ·rw [e] at h
       exact .inl (.inr (.inr (.inr (.inr h))))
      ·rw [e] at h
       injection h with h
       refine .inr ?_
       omega
    have hmlen : nn + mm = (memS (mem D) (pre ++ [(x, n)])).length := by
     rw [memS_len, cntS_snoc, hnn2.out, hml.out]
    rw [← memS_snoc] at hB9
    refine ⟨hCW.lp, hR1.out _ ?_ ?_⟩
    ·rw [lrec_again hr] at hC9 hB9 ⊢
     exact ⟨_, ⟨la7, nn + mm, lc7, _, rfl, hmlen, by have := hml.out; omega, hB9, hC9⟩, hFF⟩
    ·rw [lrec_again hr] at hK9 ⊢
     exact hK9
 ·rintro e W' ⟨hret, ⟨F, la, nn, lc, q, rfl, hnn, hn3, hB, hC⟩ | ⟨hX, hlong⟩⟩
  ·refine ⟨hret, .inl ⟨hC.lp, ?_⟩⟩
   have hpo := hp.out
   have hC2 := hC.put hpo { r with state := .exhausted }
   have hB2 := hB.put hC.lp (.loop { r with state := .exhausted })
   have hnn2 : Hid (nn = cntS (mem D) (pcA D.cs lo hi)) := hide (by rw [hnn, memS_len])
   clear hJ0 hC hB hnn
   generalize W'.putObj (p + 5) (.loop { r with state := .exhausted }) = Wf at *
   have c0 := cell_of_row Wf p 0 _ _ (0, 0) hB2.st
   have c1 := cell_of_row Wf (w.heap.size + 2) 0 _ _ (0, 0) hC2.r1
   have c2 := cell_of_row Wf (w.heap.size + 3) 0 _ _ (0, 0) hC2.r2
   have f1 := frozen_of_row Wf (w.heap.size + 2) 0 _ _ hC2.r1
   have f2 := frozen_of_row Wf (w.heap.size + 3) 0 _ _ hC2.r2
   have o1 := Only.set (w.heap.size + 2) 0 Wf (.slice la nn lc)
   have o2 := Only.set (w.heap.size + 3) 0 (Wf.setCell ⟨w.heap.size + 2, 0, none⟩ (.slice la nn lc)) (.int .i64 0)
   have h1 := heap_setCell_same Wf (w.heap.size + 2) 0 _ 23 (.slice la nn lc) hC2.r1
   have h1' := hide ((o2.block _ (by omega)).trans h1)
   have h2' := hide (heap_setCell_same (Wf.setCell ⟨w.heap.size + 2, 0, none⟩ (.slice la nn lc)) (w.heap.size + 3) 0 _ 33 (.int .i64 0) ((o1.block _ (by omega)).trans hC2.r2))
   have hr2 := (o1.block (w.heap.size + 3) (by omega)).trans hC2.r2
   have hdf := hide ((o2.block _ (by omega)).trans ((o1.block _ (by omega)).trans hC2.df))
   have ho9 := hide (own_only (own_only hB2.own o1 fun g e => by have := (own_blk hB2.own g e).1; omega) o2 fun g e => by have := (own_blk hB2.own g e).1; omega)
   have hq9 := hide ((hB2.nu.blk (Nat.le_of_eq o1.size.symm) (u32_only o1 hC2.r1 (by decide))).blk (Nat.le_of_eq o2.size.symm) (u32_only o2 hr2 (by decide)))
   have hbl := hide ((hC2.bx.bel.trans (o1.below (by omega))).trans (o2.below (by omega)))
   replace hpo := hide hpo
   clear hC2 hB2 o1 o2 h1 hr2
   gi_wp2
   refine ⟨by simp, .inl ⟨_, _, rfl, run_takeDeferred hdf.out, ?_⟩⟩
   have hpo2 := hpo.out
   refine ⟨_, results_si rfl _ _ (w.heap.size + 2) (w.heap.size + 3) _ _ 23 33 (0, 0) (0, 0) rfl rfl ((World.putObj_heap_other (by omega)).trans h1'.out) ((World.putObj_heap_other (by omega)).trans h2'.out) Tryz.underlying23 Tryz.underlying33, ?_⟩
   have hv : memS (mem D) (pcA D.cs lo hi) = memI (mem D) lo hi := by
    unfold pcA
    split
    ·rename_i h
     unfold memI
     rw [show (hi - lo + 1).toNat = 0 by omega]
     rfl
    ·exact memS_pcs _ (by omega)
   have hq10 := hq9.out
   rw [hv] at hq10
   have h4 := own_mv (W' := ((Wf.setCell ⟨w.heap.size + 2, 0, none⟩ (.slice la nn lc)).setCell ⟨w.heap.size + 3, 0, none⟩ (.int .i64 0)).putObj (p + 4) (.deferred none)) ho9.out fun g e => World.putObj_heap_other (by have := (own_blk ho9.out g e).1; omega)
   have h5 := hq10.blk (w' := ((Wf.setCell ⟨w.heap.size + 2, 0, none⟩ (.slice la nn lc)).setCell ⟨w.heap.size + 3, 0, none⟩ (.int .i64 0)).putObj (p + 4) (.deferred none)) (by simp [World.putObj]) fun g hg => World.putObj_heap_other fun e => by
    obtain ⟨cur, h2⟩ := hg
    rw [e, hdf.out] at h2
    cases h2
   obtain ⟨a', c', e', hsn⟩ := sn_own h4 h5
   cases e'
   exact ⟨hbl.out.trans (bel_put _ (by omega)), .inl ⟨_, _, _, rfl, hn3, hsn⟩⟩
  ·refine ⟨hret, .inr ⟨.ret, hX.lp, ?_⟩⟩
   have hpo := hp.out
   clear hJ0
   gi_wp2
   have hdf := (World.putObj_heap_other (r := p + 5) (o := .loop { r with state := .exhausted, pending := some .ret }) (by omega)).trans hX.df
   refine ⟨by simp, .inl ⟨_, _, rfl, run_takeDeferred hdf, ?_⟩⟩
   refine ⟨_, results_si rfl _ _ (w.heap.size + 2) (w.heap.size + 3) _ _ 23 33 (0, 0) (0, 0) rfl rfl ((World.putObj_heap_other (by omega)).trans ((World.putObj_heap_other (by omega)).trans hX.r1)) ((World.putObj_heap_other (by omega)).trans ((World.putObj_heap_other (by omega)).trans hX.r2)) Tryz.underlying23 Tryz.underlying33, ?_⟩
   exact ⟨(hX.bel.trans (bel_put _ (by omega))).trans (bel_put _ (by omega)), .inr ⟨rfl, hlong⟩⟩
end Pd
end Go.Proofs.YtfannonacamhhaaGreat

namespace Go.Proofs.YtfannonacamhhaaGreat
open Go.RowKit Go.Sort
namespace Pd

set_option maxRecDepth 100000 in
set_option maxHeartbeats 3200000 in
theorem ints19_t {s : Bool} {a1 a2 : Option Addr} {l c1 c2 : Nat} {zs : List Int} {w : World} (h1 : Rd w a1 l c1 zs) (h2 : Rd w a2 l c2 zs) :
  Calls Tryz.prog 23 #[.agg #[.bool s, .slice a1 l c1], .agg #[.bool s, .slice a2 l c2]] w fun e w' => e = .returned (.bool true) ∧ Below w.heap.size w w' := by
 have hll := h1.2.1
 have hlc := h1.2.2.1
 have hss : (s != s) = false := by simp
 have hnn : ((l : Int) != (l : Int)) = false := by simp
 go_enter Tryz.func23, Tryz.ntmps23
 go_wp2_with fail
 have b0 : Below w.heap.size w ((w.alloc (.cells #[.bool s, .slice a1 l c1] 38)).alloc (.cells #[.bool s, .slice a2 l c2] 38)) := below_alloc' (below_alloc _ _) _
 have y1 := Bk.below (heap_alloc_new w (.cells #[.bool s, .slice a1 l c1] 38)) (below_alloc _ (.cells #[.bool s, .slice a2 l c2] 38))
 have y2 : ((w.alloc (.cells #[.bool s, .slice a1 l c1] 38)).alloc (.cells #[.bool s, .slice a2 l c2] 38)).heap[w.heap.size + 1]? = some (.cells #[.bool s, .slice a2 l c2] 38 (0, 0)) := by
  have := heap_alloc_new (w.alloc (.cells #[.bool s, .slice a1 l c1] 38)) (.cells #[.bool s, .slice a2 l c2] 38)
  simpa using this
 replace h1 := h1.below b0
 replace h2 := h2.below b0
 generalize (w.alloc (.cells #[.bool s, .slice a1 l c1] 38)).alloc (.cells #[.bool s, .slice a2 l c2] 38) = wb at *
 have p0 := cell_of_row wb _ 0 _ _ (0, 0) y1
 have p1 := cell_of_row wb _ 1 _ _ (0, 0) y1
 have q0 := cell_of_row wb _ 0 _ _ (0, 0) y2
 have q1 := cell_of_row wb _ 1 _ _ (0, 0) y2
 go_loopw [5] (fun i wr => ∃ (k n : Nat), k ≤ l ∧ i = .int .i64 k ∧ wr = wb.drewN n) (fun i _ => l - (intOf i).toNat)
 case atStart => exact ⟨0, 0, Nat.zero_le _, rfl, rfl⟩
 case round =>
  obtain ⟨k, n, hk, rfl, rfl⟩ := hrel
  by_cases hkl : k < l
  ·obtain ⟨_, _, _, hL, ⟨rfl, e, _⟩ | ⟨x1, rfl, e | ⟨b1, o1, rfl, hb1, hc1⟩⟩⟩ := h1
   ·omega
   ·omega
   obtain ⟨_, _, _, _, ⟨rfl, e, _⟩ | ⟨x2, rfl, e | ⟨b2, o2, rfl, hb2, hc2⟩⟩⟩ := h2
   ·omega
   ·omega
   have u1 := hc1 k hkl
   have u2 := hc2 k hkl
   have hbd := lz_bd hL k
   clear hc1 hc2
   generalize lz zs k = z at *
   go_wp2_with fail
   go_quiet (fail)
   go_wp2_with fail
   exact ⟨⟨k + 1, n + nq, by omega, by go_num, rfl⟩, by simp [intOf]; omega⟩
  ·obtain rfl : k = l := by omega
   go_wp2_with fail
   go_ret
   exact ⟨rfl, b0.trans (below_drewN _ _ _)⟩
/-- two numbers that stand and are the same -/
theorem ints19_zn {z y : ZV} {x : Int} {w : World} (h1 : Zn w z.s z.a z.l z.c x) (h2 : Zn w y.s y.a y.l y.c x) : Calls Tryz.prog 23 #[.agg #[.bool z.s, .slice z.a z.l z.c], .agg #[.bool y.s, .slice y.a y.l y.c]] w fun e w' => e = .returned (.bool true) ∧ Below w.heap.size w w' := by
 obtain ⟨hs, hl⟩ := zn_same h1 h2
 obtain ⟨n, ⟨zs, hr, hc, hv⟩, hx, -⟩ := h1
 obtain ⟨n', ⟨zs', hr', hc', hv'⟩, hx', -⟩ := h2
 have b1 := val_nonneg hr.2.2.2.1
 have b2 := val_nonneg hr'.2.2.2.1
 have e : n = n' := by
  rw [hx] at hx'
  unfold sg at hx'
  split at hx' <;> split at hx' <;> omega
 subst e
 have := canon_inj hc hc' (hv.trans hv'.symm)
 subst this
 obtain ⟨s, a, l, c⟩ := z
 obtain ⟨s', a', l', c'⟩ := y
 dsimp only at hs hl hr hr'
 subst hs hl
 exact ints19_t hr hr'

set_option maxRecDepth 100000 in
set_option maxHeartbeats 1600000 in
theorem num_n (k : Int) (h0 : -9223372036854775808 ≤ k) (h1 : k ≤ 9223372036854775807) (w : World) : Calls Tryz.prog 36 #[.int .i64 k] w fun e w' => ∃ z : ZV, e = .returned (.agg #[.bool z.s, .slice z.a z.l z.c]) ∧ Zn w' z.s z.a z.l z.c k ∧ Below w.heap.size w w' ∧ z.l ≤ 2 := by
 have b1 := below_alloc w (.cells #[.bool false, .slice none 0 0] 38)
 have y1 := zb_new w false none 0 0
 have hof := hide (rof_n k h0 h1 (w.alloc (.cells #[.bool false, .slice none 0 0] 38)))
 replace b1 := hide b1
 replace y1 := hide y1
 go_enter Tryz.func36, Tryz.ntmps36
 go_upto_region 1 with (fail)
 generalize w.alloc (.cells #[.bool false, .slice none 0 0] 38) = w0 at *
 obtain ⟨bx, hbx⟩ : ∃ bx, w.heap.size = bx := ⟨_, rfl⟩
 rw [hbx] at y1 ⊢
 have hbw : Hid (w.heap.size = bx) := hide hbx
 clear hbx
 go_wp2_with fail
 refine hof.out.mono ?_
 rintro e w1 ⟨s', a', l', c', rfl, hz1, k1, hl⟩
 have r1 := y1.out.below k1
 have r2 := r1.c0
 have r3 := r1.c1
 have r4 := r1.f 0
 have r5 := r1.f 1
 have hzf := hide (zb_zn r1 hz1 s' a' l' c')
 have kf := hide (((grow_step k1 b1.out).setCell (p := ⟨bx, 0, none⟩) (show w.heap.size ≤ bx by have := hbw.out; omega) (.bool s')).setCell (p := ⟨bx, 1, none⟩) (show w.heap.size ≤ bx by have := hbw.out; omega) (.slice a' l' c'))
 have hfin := hide (zb_fin r1 s' a' l' c')
 clear hof k1 r1 hz1
 go_wp2
 refine bodyPost_ret (results_cell_row rfl _ _ bx 38 _ (0, 0) _ rfl hfin.out Tryz.underlying38 rfl (by kernel_rfl)) rfl ?_
 exact ⟨⟨s', a', l', c'⟩, by simp, hzf.out, kf.out, hl⟩
/-- the set that is known: its numbers -/
theorem kn_data {D : PD} (h : ∀ x, mem D x = (decide (3 < x) && decide (x % 4 = 1 % 4))) : cntI (mem D) 0 20 = 4 ∧ cntI (mem D) 0 14 = 3 := by
 have e : mem D = fun x => (decide (3 < x) && decide (x % 4 = 1 % 4)) := funext h
 rw [e]
 decide
theorem kn_next {D : PD} (h : ∀ x, mem D x = (decide (3 < x) && decide (x % 4 = 1 % 4))) {w' : World} {en : Ending} {B : Nat} (hN : Nst w' en (mem D) 6 1 B) : ∃ z : ZV, en = .returned (.tuple #[.agg #[.bool z.s, .slice z.a z.l z.c], .bool true]) ∧ Zn w' z.s z.a z.l z.c 9 ∧ z.l ≤ B := by
 have h9 : mem D 9 = true := by rw [h]; rfl
 rcases hN with ⟨v, z, h1, h2, h3, h4, h5, h6⟩ | ⟨h1, -⟩
 ·have hv : v ≤ 9 := by
   rcases Int.lt_or_le 9 v with h7 | h7
   ·have := h2 9 (by omega) (by omega)
    rw [h9] at this
    cases this
   ·exact h7
  rw [h] at h3
  simp only [Bool.and_eq_true, decide_eq_true_eq] at h3
  obtain rfl : v = 9 := by omega
  exact ⟨z, h4, h5, h6⟩
 ·have := h1 9 (by omega)
  rw [h9] at this
  cases this
theorem kn_last {D : PD} (h : ∀ x, mem D x = (decide (3 < x) && decide (x % 4 = 1 % 4))) {w' : World} {en : Ending} {B : Nat} (hN : Nst w' en (mem D) 4 (-1) B) : en = .returned (.tuple #[.agg #[.bool false, .slice none 0 0], .bool false]) := by
 rcases hN with ⟨v, z, h1, h2, h3, h4, h5, h6⟩ | ⟨-, h1⟩
 ·rw [h] at h3
  simp only [Bool.and_eq_true, decide_eq_true_eq] at h3
  omega
 ·exact h1
theorem kn_list {D : PD} (h : ∀ x, mem D x = (decide (3 < x) && decide (x % 4 = 1 % 4))) {w w' : World} {en : Ending} (hN : LsO w (mem D) 0 14 en w') : Below w.heap.size w w' ∧ ∃ a c, en = .returned (.tuple #[.slice a 3 c, .int .i64 0]) := by
 obtain ⟨k, ⟨a, n, c, e, hn, hs⟩ | ⟨-, hl⟩⟩ := hN
 ·refine ⟨k, a, c, ?_⟩
  have := hs.1
  rw [memI_len, (kn_data h).2] at this
  rw [e, this]
 ·rw [(kn_data h).2] at hl
  omega
theorem zn_zero (w : World) : Zn w false none 0 0 0 := (zf_zero w).zn.zn
set_option maxRecDepth 100000 in
set_option maxHeartbeats 12800000 in
theorem known19_n (w : World) : Calls Tryz.prog 20 #[] w fun e w' => e = .returned (.bool true) ∧ Below w.heap.size w w' := by
 have hnum := fun (k : Int) (h0 : -9223372036854775808 ≤ k) (h1 : k ≤ 9223372036854775807) (u : World) => hide (num_n k h0 h1 u)
 go_enter Tryz.func20, Tryz.ntmps20
 go_wp2_with fail
 refine (hnum 4 (by decide) (by decide) _).out.mono ?_
 rintro e w1 ⟨z1, rfl, hz1, k1, hl1⟩
 go_wp2_with fail
 refine (hnum 1 (by decide) (by decide) _).out.mono ?_
 rintro e w2 ⟨z2, rfl, hz2, k2, hl2⟩
 have hcl := hide (class_n (z := z1) (y := z2) ⟨hz1.zm.below k2, by omega⟩ ⟨hz2.zm, by omega⟩)
 replace k2 := hide (grow_step k2 k1)
 clear hz1 hz2 k1
 go_wp2_with fail
 refine hcl.out.mono ?_
 rintro e w3 ⟨k3, ⟨he, -⟩ | ⟨-, bB, B, rfl, pB, eB1, -, eB3, eB4⟩⟩
 ·exact absurd (by decide) he
 have hwB : B.cs = [] := by rw [eB4]
 replace k3 := hide (grow_step k3 k2.out)
 replace pB := hide pB
 replace eB1 := hide eB1
 replace eB3 := hide eB3
 replace hwB := hide hwB
 clear hcl k2 eB4
 go_wp2_with fail
 refine (hnum 3 (by decide) (by decide) _).out.mono ?_
 rintro e w4 ⟨z4, rfl, hz4, k4, hl4⟩
 have hab := hide (above_n hz4.zm (by omega))
 have pB4 := hide (pB.out.below k4)
 replace k4 := hide (grow_step k4 k3.out)
 clear hz4 k3 pB
 go_wp2_with fail
 refine hab.out.mono ?_
 rintro e w5 ⟨bA, A, rfl, pA, k5, eA1, eA2, eA3⟩
 have pB5 := pB4.out.below k5
 have hme := hide (meet_n pA pB5 (by rw [eA2]; decide) (by rw [hwB.out]; decide))
 replace k5 := hide (grow_step k5 k4.out)
 replace eA1 := hide eA1
 replace eA2 := hide eA2
 replace eA3 := hide eA3
 clear hab k4 pB4 pB5 pA
 go_wp2_with fail
 refine hme.out.mono ?_
 rintro e w6 ⟨k6, ⟨he, -⟩ | ⟨-, bD, D, rfl, pD, eD1, eD2, eD3, eD4⟩⟩
 ·exact absurd (by rw [eA1.out, eB1.out]; decide) he
 have hm : Hid (∀ x, mem D x = (decide (3 < x) && decide (x % 4 = 1 % 4))) := hide fun x => by rw [eD3]; dsimp only; rw [eA3.out, eB3.out]; rfl
 have hcs : D.cs.length ≤ 1073741823 := by rw [eA2.out, hwB.out] at eD2; simp at eD2; omega
 replace k6 := hide (grow_step k6 k5.out)
 replace pD := hide pD
 clear hme k5 eD1 eD2 eD3 eD4 eA1 eA2 eA3 eB1 eB3 hwB
 go_wp2_with fail
 refine (hnum (0) (by decide) (by decide) _).out.mono ?_
 rintro e w7 ⟨u1, rfl, u1h, u1k, u1l⟩
 go_wp2_with fail
 refine (hnum (20) (by decide) (by decide) _).out.mono ?_
 rintro e w8 ⟨u2, rfl, u2h, u2k, u2l⟩
 have hC := hide (Count_n ((pD.out.below u1k).below u2k) hcs (u1h.zm.below u2k) (by omega) u2h.zm (by omega))
 replace pD := hide ((pD.out.below u1k).below u2k)
 replace k6 := hide (grow_step u2k (grow_step u1k k6.out))
 clear u1h u2h u1k u2k
 go_wp2_with fail
 refine hC.out.mono ?_
 rintro e w9 ⟨zn, rfl, hzn, hln, k9⟩
 rw [(kn_data hm.out).1] at hzn
 have b9 := below_alloc w9 (.cells #[.bool zn.s, .slice zn.a zn.l zn.c] 38)
 have yn := hide (zb_new w9 zn.s zn.a zn.l zn.c)
 replace hzn := hide (hzn.below b9)
 replace pD := hide ((pD.out.below k9).below b9)
 replace k6 := hide (grow_step b9 (grow_step k9 k6.out))
 clear hC k9 b9
 go_upto_region 8 with (fail)
 generalize w9.alloc (.cells #[.bool zn.s, .slice zn.a zn.l zn.c] 38) = wA at *
 obtain ⟨bn, hbn⟩ : ∃ bn, w9.heap.size = bn := ⟨_, rfl⟩
 rw [hbn] at yn ⊢
 clear hbn
 go_wp2_with fail
 refine (hnum (6) (by decide) (by decide) _).out.mono ?_
 rintro e wB ⟨u3, rfl, u3h, u3k, u3l⟩
 have hN := hide (next_n (LL := 8589934592) (pD.out.below u3k) hcs u3h.zm (by omega) (by decide) (by decide))
 replace pD := hide (pD.out.below u3k)
 replace yn := hide (yn.out.below u3k)
 replace hzn := hide (hzn.out.below u3k)
 replace k6 := hide (grow_step u3k k6.out)
 clear u3h u3k
 go_wp2_with fail
 refine hN.out.mono ?_
 rintro e wC ⟨kC, hNs⟩
 obtain ⟨zx, rfl, hzx, hlx⟩ := kn_next hm.out hNs
 have bC := below_alloc wC (.cells #[.bool zx.s, .slice zx.a zx.l zx.c] 38)
 have yx := hide (zb_new wC zx.s zx.a zx.l zx.c)
 replace hzx := hide (hzx.below bC)
 replace pD := hide ((pD.out.below kC).below bC)
 replace yn := hide ((yn.out.below kC).below bC)
 replace hzn := hide ((hzn.out.below kC).below bC)
 replace k6 := hide (grow_step bC (grow_step kC k6.out))
 clear hN hNs kC bC
 go_upto_region 9 with (fail)
 generalize wC.alloc (.cells #[.bool zx.s, .slice zx.a zx.l zx.c] 38) = wD at *
 obtain ⟨bx, hbx⟩ : ∃ bx, wC.heap.size = bx := ⟨_, rfl⟩
 rw [hbx] at yx ⊢
 clear hbx
 go_wp2_with fail
 refine (hnum (4) (by decide) (by decide) _).out.mono ?_
 rintro e wE ⟨u4, rfl, u4h, u4k, u4l⟩
 have hL := hide (last_n (LL := 8589934592) (pD.out.below u4k) hcs u4h.zm (by omega) (by decide) (by decide))
 replace pD := hide (pD.out.below u4k)
 replace yn := hide (yn.out.below u4k)
 replace hzn := hide (hzn.out.below u4k)
 replace yx := hide (yx.out.below u4k)
 replace hzx := hide (hzx.out.below u4k)
 replace k6 := hide (grow_step u4k k6.out)
 clear u4h u4k
 go_wp2_with fail
 refine hL.out.mono ?_
 rintro e wF ⟨kF, hLs⟩
 obtain rfl := kn_last hm.out hLs
 have bF := below_alloc wF (.cells #[.bool false, .slice none 0 0] 38)
 have yy := hide (zb_new wF false none 0 0)
 replace pD := hide ((pD.out.below kF).below bF)
 replace yn := hide ((yn.out.below kF).below bF)
 replace hzn := hide ((hzn.out.below kF).below bF)
 replace yx := hide ((yx.out.below kF).below bF)
 replace hzx := hide ((hzx.out.below kF).below bF)
 replace k6 := hide (grow_step bF (grow_step kF k6.out))
 clear hL hLs kF bF
 go_upto_region 10 with (fail)
 generalize wF.alloc (.cells #[.bool false, .slice none 0 0] 38) = wG at *
 obtain ⟨bY, hby⟩ : ∃ bY, wF.heap.size = bY := ⟨_, rfl⟩
 rw [hby] at yy ⊢
 clear hby
 go_wp2_with fail
 refine (hnum (0) (by decide) (by decide) _).out.mono ?_
 rintro e wH ⟨u5, rfl, u5h, u5k, u5l⟩
 go_wp2_with fail
 refine (hnum (14) (by decide) (by decide) _).out.mono ?_
 rintro e wI ⟨u6, rfl, u6h, u6k, u6l⟩
 have hLi := hide (List_n ((pD.out.below u5k).below u6k) hcs (u5h.zm.below u6k) (by omega) u6h.zm (by omega))
 replace yn := hide ((yn.out.below u5k).below u6k)
 replace hzn := hide ((hzn.out.below u5k).below u6k)
 replace yx := hide ((yx.out.below u5k).below u6k)
 replace hzx := hide ((hzx.out.below u5k).below u6k)
 replace yy := hide ((yy.out.below u5k).below u6k)
 replace k6 := hide (grow_step u6k (grow_step u5k k6.out))
 clear u5h u6h u5k u6k pD
 go_wp2_with fail
 refine hLi.out.mono ?_
 intro e wJ hLs
 obtain ⟨kJ, la, lc, rfl⟩ := kn_list hm.out hLs
 replace yn := hide (yn.out.below kJ)
 replace hzn := hide (hzn.out.below kJ)
 replace yx := hide (yx.out.below kJ)
 replace hzx := hide (hzx.out.below kJ)
 replace yy := hide (yy.out.below kJ)
 replace k6 := hide (grow_step kJ k6.out)
 clear hLi hLs kJ
 go_upto_region 11 with (fail)
 refine wp_region_held_drew (S := (fun w' => (w'.cell? ⟨bn, 0, none⟩ = some (.bool zn.s) ∧ w'.cell? ⟨bn, 1, none⟩ = some (.slice zn.a zn.l zn.c)) ∧ (w'.cell? ⟨bx, 0, none⟩ = some (.bool zx.s) ∧ w'.cell? ⟨bx, 1, none⟩ = some (.slice zx.a zx.l zx.c)) ∧ (w'.cell? ⟨bY, 0, none⟩ = some (.bool false) ∧ w'.cell? ⟨bY, 1, none⟩ = some (.slice none 0 0)))) (by kernel_rfl) (⟨⟨(yn.out.below (grow_drew (Below.refl _ _))).c0, (yn.out.below (grow_drew (Below.refl _ _))).c1⟩, ⟨(yx.out.below (grow_drew (Below.refl _ _))).c0, (yx.out.below (grow_drew (Below.refl _ _))).c1⟩, ⟨(yy.out.below (grow_drew (Below.refl _ _))).c0, (yy.out.below (grow_drew (Below.refl _ _))).c1⟩⟩) (fun hHeld => ?_)
 show wpAnyH _ _ _ _ _ 34 _ _ _
 have kW := grow_drew (Below.refl wJ.heap.size wJ)
 generalize wJ.drew = wQ at *
 refine wpAnyH_take (i := 0) (oi := ⟨some 64, _, _, _, _, _⟩) (v := ?_) rfl (by decide +kernel) (by decide +kernel) (by decide +kernel) (fun _ _ _ h => h) (Or.inl ⟨by rfl, ?_⟩) (by assumption) ?_
 rotate_left
 ·intro wq hSw; (try dsimp only at hSw); go_simp; (try with_reducible rfl)
 (try simp only [Act.put, List.setIfInBounds_toArray, List.set_cons_zero, List.set_cons_succ])
 refine wpAnyH_take (i := 1) (oi := ⟨some 65, _, _, _, _, _⟩) (v := ?_) rfl (by decide +kernel) (by decide +kernel) (by decide +kernel) (fun _ _ _ h => h) (Or.inl ⟨by rfl, ?_⟩) (by assumption) ?_
 rotate_left
 ·intro wq hSw; (try dsimp only at hSw); go_simp; (try with_reducible rfl)
 (try simp only [Act.put, List.setIfInBounds_toArray, List.set_cons_zero, List.set_cons_succ])
 refine wpAnyH_take (i := 2) (oi := ⟨some 66, _, _, _, _, _⟩) (v := ?_) rfl (by decide +kernel) (by decide +kernel) (by decide +kernel) (fun _ _ _ h => h) (Or.inl ⟨by rfl, ?_⟩) (by assumption) ?_
 rotate_left
 ·intro wq hSw; (try dsimp only at hSw); go_simp; (try with_reducible rfl)
 (try simp only [Act.put, List.setIfInBounds_toArray, List.set_cons_zero, List.set_cons_succ])
 refine wpAnyH_take (i := 3) (oi := ⟨some 67, _, _, _, _, _⟩) (v := ?_) rfl (by decide +kernel) (by decide +kernel) (by decide +kernel) (fun _ _ _ h => h) (Or.inl ⟨by rfl, ?_⟩) (by assumption) ?_
 rotate_left
 ·intro wq hSw; (try dsimp only at hSw); go_simp; (try with_reducible rfl)
 (try simp only [Act.put, List.setIfInBounds_toArray, List.set_cons_zero, List.set_cons_succ])
 refine wpAnyH_ready (rs := [4]) (by decide +kernel) (by simp) ?_
 refine AllReadyH.cons (i := 4) (o := ⟨some 68, _, _, _, _, _⟩) rfl (fun K hK => ?_) AllReadyH.nil
 go_simp
 go_at_call 36; refine Calls.mono (hnum (4) (by decide) (by decide) _).out ?_; rintro e wv1 ⟨v1, rfl, v1h, v1k, v1l⟩
 have kW := grow_step v1k kW
 try go_wp2_with fail
 refine hK.out _ _ ?_ ?_
 ·first | with_reducible exact trivial | ((try dsimp only); exact ⟨⟨(yn.out.below kW).c0, (yn.out.below kW).c1⟩, ⟨(yx.out.below kW).c0, (yx.out.below kW).c1⟩, ⟨(yy.out.below kW).c0, (yy.out.below kW).c1⟩⟩)
 clear hK K hHeld; intro hHeld
 (try simp only [Act.put, List.setIfInBounds_toArray, List.set_cons_zero, List.set_cons_succ])
 refine wpAnyH_ready (rs := [5]) (by decide +kernel) (by simp) ?_
 refine AllReadyH.cons (i := 5) (o := ⟨some 69, _, _, _, _, _⟩) rfl (fun K hK => ?_) AllReadyH.nil
 go_simp
 go_at_call 23; refine Calls.mono (ints19_zn (z := zn) (y := v1) (hzn.out.below kW) (v1h)) ?_; rintro e wIq1 ⟨rfl, q1⟩
 have kW := grow_step q1 kW
 try go_wp2_with fail
 refine hK.out _ _ ?_ ?_
 ·first | with_reducible exact trivial | ((try dsimp only); exact ⟨⟨(yn.out.below kW).c0, (yn.out.below kW).c1⟩, ⟨(yx.out.below kW).c0, (yx.out.below kW).c1⟩, ⟨(yy.out.below kW).c0, (yy.out.below kW).c1⟩⟩)
 clear hK K hHeld; intro hHeld
 (try simp only [Act.put, List.setIfInBounds_toArray, List.set_cons_zero, List.set_cons_succ])
 refine wpAnyH_take (i := 6) (oi := ⟨some 70, _, _, _, _, _⟩) (v := ?_) rfl (by decide +kernel) (by decide +kernel) (by decide +kernel) (fun _ _ _ h => h) (Or.inl ⟨by rfl, ?_⟩) (by assumption) ?_
 rotate_left
 ·intro wq hSw; (try dsimp only at hSw); go_simp; (try with_reducible rfl)
 (try simp only [Act.put, List.setIfInBounds_toArray, List.set_cons_zero, List.set_cons_succ])
 refine wpAnyH_take (i := 7) (oi := ⟨some 71, _, _, _, _, _⟩) (v := ?_) rfl (by decide +kernel) (by decide +kernel) (by decide +kernel) (fun _ _ _ h => h) (Or.inl ⟨by rfl, ?_⟩) (by assumption) ?_
 rotate_left
 ·intro wq hSw; (try dsimp only at hSw); go_simp; (try with_reducible rfl)
 (try simp only [Act.put, List.setIfInBounds_toArray, List.set_cons_zero, List.set_cons_succ])
 refine wpAnyH_take (i := 8) (oi := ⟨some 72, _, _, _, _, _⟩) (v := ?_) rfl (by decide +kernel) (by decide +kernel) (by decide +kernel) (fun _ _ _ h => h) (Or.inl ⟨by rfl, ?_⟩) (by assumption) ?_
 rotate_left
 ·intro wq hSw; (try dsimp only at hSw); go_simp; (try with_reducible rfl)
 (try simp only [Act.put, List.setIfInBounds_toArray, List.set_cons_zero, List.set_cons_succ])
 refine wpAnyH_take (i := 9) (oi := ⟨some 73, _, _, _, _, _⟩) (v := ?_) rfl (by decide +kernel) (by decide +kernel) (by decide +kernel) (fun _ _ _ h => h) (Or.inl ⟨by rfl, ?_⟩) (by assumption) ?_
 rotate_left
 ·intro wq hSw; (try dsimp only at hSw); go_simp; (try with_reducible rfl)
 (try simp only [Act.put, List.setIfInBounds_toArray, List.set_cons_zero, List.set_cons_succ])
 refine wpAnyH_take (i := 10) (oi := ⟨some 74, _, _, _, _, _⟩) (v := ?_) rfl (by decide +kernel) (by decide +kernel) (by decide +kernel) (fun _ _ _ h => h) (Or.inl ⟨by rfl, ?_⟩) (by assumption) ?_
 rotate_left
 ·intro wq hSw; (try dsimp only at hSw); go_simp; (try with_reducible rfl)
 (try simp only [Act.put, List.setIfInBounds_toArray, List.set_cons_zero, List.set_cons_succ])
 refine wpAnyH_take (i := 11) (oi := ⟨some 75, _, _, _, _, _⟩) (v := ?_) rfl (by decide +kernel) (by decide +kernel) (by decide +kernel) (fun _ _ _ h => h) (Or.inl ⟨by rfl, ?_⟩) (by assumption) ?_
 rotate_left
 ·intro wq hSw; (try dsimp only at hSw); go_simp; (try with_reducible rfl)
 (try simp only [Act.put, List.setIfInBounds_toArray, List.set_cons_zero, List.set_cons_succ])
 refine wpAnyH_ready (rs := [12]) (by decide +kernel) (by simp) ?_
 refine AllReadyH.cons (i := 12) (o := ⟨some 76, _, _, _, _, _⟩) rfl (fun K hK => ?_) AllReadyH.nil
 go_simp
 go_at_call 36; refine Calls.mono (hnum (9) (by decide) (by decide) _).out ?_; rintro e wv2 ⟨v2, rfl, v2h, v2k, v2l⟩
 have kW := grow_step v2k kW
 try go_wp2_with fail
 refine hK.out _ _ ?_ ?_
 ·first | with_reducible exact trivial | ((try dsimp only); exact ⟨⟨(yn.out.below kW).c0, (yn.out.below kW).c1⟩, ⟨(yx.out.below kW).c0, (yx.out.below kW).c1⟩, ⟨(yy.out.below kW).c0, (yy.out.below kW).c1⟩⟩)
 clear hK K hHeld; intro hHeld
 (try simp only [Act.put, List.setIfInBounds_toArray, List.set_cons_zero, List.set_cons_succ])
 refine wpAnyH_ready (rs := [13]) (by decide +kernel) (by simp) ?_
 refine AllReadyH.cons (i := 13) (o := ⟨some 77, _, _, _, _, _⟩) rfl (fun K hK => ?_) AllReadyH.nil
 go_simp
 go_at_call 23; refine Calls.mono (ints19_zn (z := zx) (y := v2) (hzx.out.below kW) (v2h)) ?_; rintro e wIq2 ⟨rfl, q2⟩
 have kW := grow_step q2 kW
 try go_wp2_with fail
 refine hK.out _ _ ?_ ?_
 ·first | with_reducible exact trivial | ((try dsimp only); exact ⟨⟨(yn.out.below kW).c0, (yn.out.below kW).c1⟩, ⟨(yx.out.below kW).c0, (yx.out.below kW).c1⟩, ⟨(yy.out.below kW).c0, (yy.out.below kW).c1⟩⟩)
 clear hK K hHeld; intro hHeld
 (try simp only [Act.put, List.setIfInBounds_toArray, List.set_cons_zero, List.set_cons_succ])
 refine wpAnyH_take (i := 14) (oi := ⟨some 78, _, _, _, _, _⟩) (v := ?_) rfl (by decide +kernel) (by decide +kernel) (by decide +kernel) (fun _ _ _ h => h) (Or.inl ⟨by rfl, ?_⟩) (by assumption) ?_
 rotate_left
 ·intro wq hSw; (try dsimp only at hSw); go_simp; (try with_reducible rfl)
 (try simp only [Act.put, List.setIfInBounds_toArray, List.set_cons_zero, List.set_cons_succ])
 refine wpAnyH_take (i := 15) (oi := ⟨some 79, _, _, _, _, _⟩) (v := ?_) rfl (by decide +kernel) (by decide +kernel) (by decide +kernel) (fun _ _ _ h => h) (Or.inl ⟨by rfl, ?_⟩) (by assumption) ?_
 rotate_left
 ·intro wq hSw; (try dsimp only at hSw); go_simp; (try with_reducible rfl)
 (try simp only [Act.put, List.setIfInBounds_toArray, List.set_cons_zero, List.set_cons_succ])
 refine wpAnyH_take (i := 16) (oi := ⟨some 80, _, _, _, _, _⟩) (v := ?_) rfl (by decide +kernel) (by decide +kernel) (by decide +kernel) (fun _ _ _ h => h) (Or.inl ⟨by rfl, ?_⟩) (by assumption) ?_
 rotate_left
 ·intro wq hSw; (try dsimp only at hSw); go_simp; (try with_reducible rfl)
 (try simp only [Act.put, List.setIfInBounds_toArray, List.set_cons_zero, List.set_cons_succ])
 refine wpAnyH_take (i := 17) (oi := ⟨some 81, _, _, _, _, _⟩) (v := ?_) rfl (by decide +kernel) (by decide +kernel) (by decide +kernel) (fun _ _ _ h => h) (Or.inl ⟨by rfl, ?_⟩) (by assumption) ?_
 rotate_left
 ·intro wq hSw; (try dsimp only at hSw); go_simp; (try with_reducible rfl)
 (try simp only [Act.put, List.setIfInBounds_toArray, List.set_cons_zero, List.set_cons_succ])
 refine wpAnyH_take (i := 18) (oi := ⟨some 82, _, _, _, _, _⟩) (v := ?_) rfl (by decide +kernel) (by decide +kernel) (by decide +kernel) (fun _ _ _ h => h) (Or.inl ⟨by rfl, ?_⟩) (by assumption) ?_
 rotate_left
 ·intro wq hSw; (try dsimp only at hSw); go_simp; (try with_reducible rfl)
 (try simp only [Act.put, List.setIfInBounds_toArray, List.set_cons_zero, List.set_cons_succ])
 refine wpAnyH_take (i := 19) (oi := ⟨some 83, _, _, _, _, _⟩) (v := ?_) rfl (by decide +kernel) (by decide +kernel) (by decide +kernel) (fun _ _ _ h => h) (Or.inl ⟨by rfl, ?_⟩) (by assumption) ?_
 rotate_left
 ·intro wq hSw; (try dsimp only at hSw); go_simp; (try with_reducible rfl)
 (try simp only [Act.put, List.setIfInBounds_toArray, List.set_cons_zero, List.set_cons_succ])
 refine wpAnyH_take (i := 20) (oi := ⟨some 84, _, _, _, _, _⟩) (v := ?_) rfl (by decide +kernel) (by decide +kernel) (by decide +kernel) (fun _ _ _ h => h) (Or.inl ⟨by rfl, ?_⟩) (by assumption) ?_
 rotate_left
 ·intro wq hSw; (try dsimp only at hSw); go_simp; (try with_reducible rfl)
 (try simp only [Act.put, List.setIfInBounds_toArray, List.set_cons_zero, List.set_cons_succ])
 refine wpAnyH_take (i := 21) (oi := ⟨some 85, _, _, _, _, _⟩) (v := ?_) rfl (by decide +kernel) (by decide +kernel) (by decide +kernel) (fun _ _ _ h => h) (Or.inl ⟨by rfl, ?_⟩) (by assumption) ?_
 rotate_left
 ·intro wq hSw; (try dsimp only at hSw); go_simp; (try with_reducible rfl)
 (try simp only [Act.put, List.setIfInBounds_toArray, List.set_cons_zero, List.set_cons_succ])
 refine wpAnyH_ready (rs := [22]) (by decide +kernel) (by simp) ?_
 refine AllReadyH.cons (i := 22) (o := ⟨some 86, _, _, _, _, _⟩) rfl (fun K hK => ?_) AllReadyH.nil
 go_simp
 go_at_call 23; refine Calls.mono (ints19_zn (z := ⟨false, none, 0, 0⟩) (y := ⟨false, none, 0, 0⟩) (zn_zero _) (zn_zero _)) ?_; rintro e wIq3 ⟨rfl, q3⟩
 have kW := grow_step q3 kW
 try go_wp2_with fail
 refine hK.out _ _ ?_ ?_
 ·first | with_reducible exact trivial | ((try dsimp only); exact ⟨⟨(yn.out.below kW).c0, (yn.out.below kW).c1⟩, ⟨(yx.out.below kW).c0, (yx.out.below kW).c1⟩, ⟨(yy.out.below kW).c0, (yy.out.below kW).c1⟩⟩)
 clear hK K hHeld; intro hHeld
 (try simp only [Act.put, List.setIfInBounds_toArray, List.set_cons_zero, List.set_cons_succ])
 refine wpAnyH_take (i := 23) (oi := ⟨some 87, _, _, _, _, _⟩) (v := ?_) rfl (by decide +kernel) (by decide +kernel) (by decide +kernel) (fun _ _ _ h => h) (Or.inl ⟨by rfl, ?_⟩) (by assumption) ?_
 rotate_left
 ·intro wq hSw; (try dsimp only at hSw); go_simp; (try with_reducible rfl)
 (try simp only [Act.put, List.setIfInBounds_toArray, List.set_cons_zero, List.set_cons_succ])
 refine wpAnyH_take (i := 24) (oi := ⟨some 88, _, _, _, _, _⟩) (v := ?_) rfl (by decide +kernel) (by decide +kernel) (by decide +kernel) (fun _ _ _ h => h) (Or.inl ⟨by rfl, ?_⟩) (by assumption) ?_
 rotate_left
 ·intro wq hSw; (try dsimp only at hSw); go_simp; (try with_reducible rfl)
 (try simp only [Act.put, List.setIfInBounds_toArray, List.set_cons_zero, List.set_cons_succ])
 refine wpAnyH_take (i := 25) (oi := ⟨some 89, _, _, _, _, _⟩) (v := ?_) rfl (by decide +kernel) (by decide +kernel) (by decide +kernel) (fun _ _ _ h => h) (Or.inl ⟨by rfl, ?_⟩) (by assumption) ?_
 rotate_left
 ·intro wq hSw; (try dsimp only at hSw); go_simp; (try with_reducible rfl)
 (try simp only [Act.put, List.setIfInBounds_toArray, List.set_cons_zero, List.set_cons_succ])
 refine wpAnyH_take (i := 26) (oi := ⟨some 90, _, _, _, _, _⟩) (v := ?_) rfl (by decide +kernel) (by decide +kernel) (by decide +kernel) (fun _ _ _ h => h) (Or.inl ⟨by rfl, ?_⟩) (by assumption) ?_
 rotate_left
 ·intro wq hSw; (try dsimp only at hSw); go_simp; (try with_reducible rfl)
 (try simp only [Act.put, List.setIfInBounds_toArray, List.set_cons_zero, List.set_cons_succ])
 refine wpAnyH_take (i := 27) (oi := ⟨some 91, _, _, _, _, _⟩) (v := ?_) rfl (by decide +kernel) (by decide +kernel) (by decide +kernel) (fun _ _ _ h => h) (Or.inl ⟨by rfl, ?_⟩) (by assumption) ?_
 rotate_left
 ·intro wq hSw; (try dsimp only at hSw); go_simp; (try with_reducible rfl)
 (try simp only [Act.put, List.setIfInBounds_toArray, List.set_cons_zero, List.set_cons_succ])
 refine wpAnyH_take (i := 28) (oi := ⟨some 92, _, _, _, _, _⟩) (v := ?_) rfl (by decide +kernel) (by decide +kernel) (by decide +kernel) (fun _ _ _ h => h) (Or.inl ⟨by rfl, ?_⟩) (by assumption) ?_
 rotate_left
 ·intro wq hSw; (try dsimp only at hSw); go_simp; (try with_reducible rfl)
 (try simp only [Act.put, List.setIfInBounds_toArray, List.set_cons_zero, List.set_cons_succ])
 refine wpAnyH_take (i := 29) (oi := ⟨some 93, _, _, _, _, _⟩) (v := ?_) rfl (by decide +kernel) (by decide +kernel) (by decide +kernel) (fun _ _ _ h => h) (Or.inl ⟨by rfl, ?_⟩) (by assumption) ?_
 rotate_left
 ·intro wq hSw; (try dsimp only at hSw); go_simp; (try with_reducible rfl)
 (try simp only [Act.put, List.setIfInBounds_toArray, List.set_cons_zero, List.set_cons_succ])
 refine wpAnyH_take (i := 30) (oi := ⟨some 94, _, _, _, _, _⟩) (v := ?_) rfl (by decide +kernel) (by decide +kernel) (by decide +kernel) (fun _ _ _ h => h) (Or.inl ⟨by rfl, ?_⟩) (by assumption) ?_
 rotate_left
 ·intro wq hSw; (try dsimp only at hSw); go_simp; (try with_reducible rfl)
 (try simp only [Act.put, List.setIfInBounds_toArray, List.set_cons_zero, List.set_cons_succ])
 refine wpAnyH_take (i := 31) (oi := ⟨some 95, _, _, _, _, _⟩) (v := ?_) rfl (by decide +kernel) (by decide +kernel) (by decide +kernel) (fun _ _ _ h => h) (Or.inl ⟨by rfl, ?_⟩) (by assumption) ?_
 rotate_left
 ·intro wq hSw; (try dsimp only at hSw); go_simp; (try with_reducible rfl)
 (try simp only [Act.put, List.setIfInBounds_toArray, List.set_cons_zero, List.set_cons_succ])
 refine wpAnyH_take (i := 32) (oi := ⟨some 96, _, _, _, _, _⟩) (v := ?_) rfl (by decide +kernel) (by decide +kernel) (by decide +kernel) (fun _ _ _ h => h) (Or.inl ⟨by rfl, ?_⟩) (by assumption) ?_
 rotate_left
 ·intro wq hSw; (try dsimp only at hSw); go_simp; (try with_reducible rfl)
 (try simp only [Act.put, List.setIfInBounds_toArray, List.set_cons_zero, List.set_cons_succ])
 refine wpAnyH_ready (rs := [33]) (by decide +kernel) (by simp) ?_
 refine AllReadyH.cons (i := 33) (o := ⟨some 0, _, _, _, _, _⟩) rfl (fun K hK => ?_) AllReadyH.nil
 go_simp
 refine hK.out _ _ ?_ ?_
 ·first | with_reducible exact trivial | ((try dsimp only); exact ⟨⟨(yn.out.below kW).c0, (yn.out.below kW).c1⟩, ⟨(yx.out.below kW).c0, (yx.out.below kW).c1⟩, ⟨(yy.out.below kW).c0, (yy.out.below kW).c1⟩⟩)
 clear hK K hHeld; intro hHeld
 (try simp only [Act.put, List.setIfInBounds_toArray, List.set_cons_zero, List.set_cons_succ])
 refine wpAnyH_done ?_ ?_ _
 ·decide +kernel
 have kZ := hide (grow_step kW k6.out)
 clear kW hHeld
 go_wp2
 exact bodyPost_ret (results_tmp rfl _ _ _) rfl ⟨rfl, kZ.out⟩
end Pd
end Go.Proofs.YtfannonacamhhaaGreat

namespace Go.Proofs.YtfannonacamhhaaGreat
open Go.RowKit Go.Sort
namespace Pd

set_option maxRecDepth 100000 in
set_option maxHeartbeats 1600000 in
theorem pick19_n (c n : Int) (h0 : -9223372036854775808 ≤ c) (h1 : c ≤ 9223372036854775807) (hn0 : 0 < n) (hn1 : n ≤ 9223372036854775807) (w : World) :
  Calls Tryz.prog 21 #[.int .i64 c, .int .i64 n] w fun e w' => e = .returned (.int .i64 (pkN c n)) ∧ Below w.heap.size w w' := by
 have hp := hide (pick_n c n h0 h1 hn0 hn1 w)
 go_enter Tryz.func21, Tryz.ntmps21
 go_wp2_with fail
 refine hp.out.mono ?_
 rintro e w1 ⟨rfl, k1⟩
 replace k1 := hide k1
 clear hp
 go_wp2
 exact bodyPost_ret (results_tmp rfl _ _ _) rfl ⟨rfl, k1.out⟩
end Pd
end Go.Proofs.YtfannonacamhhaaGreat

namespace Go.Proofs.YtfannonacamhhaaGreat
open Go.RowKit Go.Sort
namespace Pd

theorem est_z {B : Nat} {v w : World} {b : Nat} {s : Bool} {a : Option Addr} {l c : Nat} (k : Below B v w) (hb : B ≤ b) (h : ZB w b s a l c) (s' : Bool) (a' : Option Addr) (l' c' : Nat) : ∃ w8, Hid ((w.setCell ⟨b, 0, none⟩ (.bool s')).setCell ⟨b, 1, none⟩ (.slice a' l' c') = w8) ∧ ZB w8 b s' a' l' c' ∧ Below B v w8 ∧ Only b w w8 ∧ ∀ s1 ad len cap z, Zn w s1 ad len cap z → Zn w8 s1 ad len cap z :=
 ⟨_, rfl, zb_fin h s' a' l' c', (k.setCell (p := ⟨b, 0, none⟩) hb (.bool s')).setCell (p := ⟨b, 1, none⟩) hb (.slice a' l' c'), only2 _ _ _ _, fun _ _ _ _ _ hz => zb_zn h hz _ _ _ _⟩
theorem cell_ne {w w' : World} {b b2 i : Nat} (ho : Only b2 w w') (hne : b ≠ b2) : w'.cell? ⟨b, i, none⟩ = w.cell? ⟨b, i, none⟩ := by
 unfold World.cell?
 rw [show w'.heap[b]? = w.heap[b]? from ho.block b hne]
end Pd
end Go.Proofs.YtfannonacamhhaaGreat

namespace Go.Proofs.YtfannonacamhhaaGreat
open Go.RowKit
namespace Pd

/-- a set's cuts and rows lie at a place or behind it -/
def Yo (F : Nat) (w : World) (b : Nat) : Prop := ∃ (v : SV) (p : Nat), SB w b p v ∧ (0 < v.cn → ∀ g off, v.ca = some ⟨g, off, none⟩ → F ≤ g) ∧ (0 < v.rn → ∀ g off, v.ra = some ⟨g, off, none⟩ → F ≤ g)
theorem Yo.below {F : Nat} {w w' : World} {b : Nat} (h : Yo F w b) (k : Below w.heap.size w w') : Yo F w' b := let ⟨v, p, h1, h2, h3⟩ := h; ⟨v, p, h1.below k, h2, h3⟩
theorem Yo.mono {F G : Nat} {w : World} {b : Nat} (h : Yo F w b) (k : G ≤ F) : Yo G w b := let ⟨v, p, h1, h2, h3⟩ := h; ⟨v, p, h1, fun c g off e => Nat.le_trans k (h2 c g off e), fun c g off e => Nat.le_trans k (h3 c g off e)⟩
theorem sb_uniq {w : World} {b p p' : Nat} {v v' : SV} (h : SB w b p v) (h' : SB w b p' v') : v' = v := by
 have e := h.symm.trans h'
 obtain ⟨a1, a2, a3, a4, a5, a6⟩ := v
 obtain ⟨b1, b2, b3, b4, b5, b6⟩ := v'
 simp at e
 obtain ⟨-, ⟨rfl, rfl, rfl⟩, rfl, rfl, rfl⟩ := e
 rfl
/-- a box of a number that is older than a set is written: the set is there still -/
theorem ps_store {F : Nat} {w w' : World} {b bx : Nat} {D : PD} {s : Bool} {a : Option Addr} {l c : Nat} (h : PS w b D) (hy : Yo F w b) (y : ZB w bx s a l c) (hb : bx < F) (ho : Only bx w w') : PS w' b D ∧ Yo F w' b := by
 obtain ⟨v, hs, hcl, hrl⟩ := h.blk
 obtain ⟨v', p', hs', h1, h2⟩ := hy
 obtain rfl := sb_uniq hs hs'
 have hx : Own w bx 38 := ⟨_, y⟩
 have hne : b ≠ bx := hx.ne hs (by decide)
 have hsz := ho.size
 have hs2 : SB w' b D.p v' := (ho.block b hne).trans hs
 refine ⟨⟨h.wf, v', hs2, ⟨hcl.len, hcl.cap, ?_⟩, ⟨hrl.len, hrl.cap, ?_⟩⟩, v', D.p, hs2, h1, h2⟩
 ·rcases hcl.at' with h0 | ⟨g, off, e, hg, q, hq, hc⟩
  ·exact .inl h0
  ·rcases Nat.eq_zero_or_pos v'.cn with h0 | h0
   ·exact .inl h0
   have hgx : g ≠ bx := by have := h1 h0 g off e; omega
   exact .inr ⟨g, off, e, by omega, q, ⟨hq.len, fun i a1 a2 => (hq.nu i a1 a2).only ho hx (by decide)⟩, fun i hi => ⟨(cell_ne ho hgx).trans (hc i hi).1, (cell_ne ho hgx).trans (hc i hi).2⟩⟩
 ·rcases hrl.at' with h0 | ⟨g, off, e, hg, hc⟩
  ·exact .inl h0
  ·rcases Nat.eq_zero_or_pos v'.rn with h0 | h0
   ·exact .inl h0
   have hgx : g ≠ bx := by have := h2 h0 g off e; omega
   refine .inr ⟨g, off, e, by omega, fun i hi => ?_⟩
   obtain ⟨r, c1, c2⟩ := hc i hi
   exact ⟨r, (cell_ne ho hgx).trans c1, c2.only ho (hx.ne c2 (by decide))⟩
theorem yo_one (w : World) (g k p : Nat) : Yo w.heap.size ((w.alloc (.cells #[.slice (some ⟨g, 0, none⟩) k k] 78)).alloc (.cells #[.int .i64 p, .slice none 0 0, .slice (some ⟨w.heap.size, 0, none⟩) 1 1] 82)) (w.heap.size + 1) := by
 have y2 := sb_new (w.alloc (.cells #[.slice (some ⟨g, 0, none⟩) k k] 78)) p ⟨none, 0, 0, some ⟨w.heap.size, 0, none⟩, 1, 1⟩
 rw [show (w.alloc (.cells #[.slice (some ⟨g, 0, none⟩) k k] 78)).heap.size = w.heap.size + 1 by simp] at y2
 exact ⟨_, p, y2, fun _ g off e => (by cases e), fun _ g off e => (by cases e; exact Nat.le_refl _)⟩
theorem yo_mk {F : Nat} {w : World} {m base : Nat} {D : PD} (h : Mk w m base D) (hF : F ≤ base) : Yo F w m := by
 obtain ⟨v, qz, qr, hm, hcn, hrn, hoz, hqz, hor, hqr, hqb⟩ := h.blk
 refine ⟨v, D.p, hm, fun h0 g off e => ?_, fun h0 g off e => ?_⟩
 ·obtain ⟨-, a, c, e1, -, -, ⟨h1, -⟩ | ⟨g', e2, h2, -⟩⟩ := own_any (by decide) zv_len hoz
  ·omega
  ·cases e1
   rw [e2] at e
   cases e
   omega
 ·obtain ⟨-, a, c, e1, -, -, ⟨h1, -⟩ | ⟨g', e2, h2, -⟩⟩ := own_any (by decide) (encr_len _) hor
  ·omega
  ·cases e1
   rw [e2] at e
   cases e
   omega
/-- what a call that makes a set answers, and that what it makes is younger -/
def GotY (w w' : World) (en : Ending) (err : Int) (P : Nat) (m : Int → Bool) (N : Nat) (X : PD → Prop) : Prop :=
 Below w.heap.size w w' ∧ ((err ≠ 0 ∧ en = .returned (.tuple #[.pointer none, .int .i64 err])) ∨ (err = 0 ∧ ∃ b D, en = .returned (.tuple #[.pointer (some ⟨b, 0, none⟩), .int .i64 0]) ∧ PS w' b D ∧ Yo w.heap.size w' b ∧ D.p = P ∧ D.cs.length ≤ N ∧ (∀ x, mem D x = m x) ∧ X D))
end Pd
end Go.Proofs.YtfannonacamhhaaGreat

namespace Go.Proofs.YtfannonacamhhaaGreat
open Go.RowKit
namespace Pd

set_option maxRecDepth 100000 in
set_option maxHeartbeats 3200000 in
theorem class_y {w : World} {z y : ZV} {d r : Int} (h : Zr w z d) (hr : Zr w y r) :
  Calls Tryz.prog 45 #[.agg #[.bool z.s, .slice z.a z.l z.c], .agg #[.bool y.s, .slice y.a y.l y.c]] w fun e w' => GotY w w' e (clErr d) d.natAbs (fun x => decide (x % (d.natAbs : Int) = r % (d.natAbs : Int))) 0 (fun D => D = ⟨d.natAbs, [], [adB (List.replicate (wn d.natAbs) 0) (r % (d.natAbs : Int)).toNat]⟩) := by
 have b1 := below_alloc w (.cells #[.bool z.s, .slice z.a z.l z.c] 38)
 have b2 := below_alloc (w.alloc (.cells #[.bool z.s, .slice z.a z.l z.c] 38)) (.cells #[.bool y.s, .slice y.a y.l y.c] 38)
 have y1 := (zb_new w z.s z.a z.l z.c).below b2
 have y2 := zb_new (w.alloc (.cells #[.bool z.s, .slice z.a z.l z.c] 38)) y.s y.a y.l y.c
 rw [show (w.alloc (.cells #[.bool z.s, .slice z.a z.l z.c] 38)).heap.size = w.heap.size + 1 by simp] at y2
 have kw := hide (grow_step b2 b1)
 have hd := hide (h.below kw.out)
 have hrr := hide (hr.below kw.out)
 clear b1 b2 h hr
 go_enter Tryz.func45, Tryz.ntmps45
 go_upto_region 1 with (fail)
 generalize (w.alloc (.cells #[.bool z.s, .slice z.a z.l z.c] 38)).alloc (.cells #[.bool y.s, .slice y.a y.l y.c] 38) = w0 at *
 have hbt : Hid (w.heap.size + 1 < w0.heap.size) := hide y2.lt
 generalize hbw : w.heap.size = bt at *
 replace hbw := hide hbw
 have q0 := y1.c0
 have q1 := y1.c1
 have hsg := hide (zsign_n hd.out.1 (zr_len hd.out))
 replace y1 := hide y1
 replace y2 := hide y2
 go_wp2_with fail
 refine hsg.out.mono ?_
 rintro e w1 ⟨rfl, k1⟩
 clear hsg q0 q1
 have hz0 := cmpI_eq0 d
 by_cases hd0 : d = 0
 ·rw [decide_eq_true hd0] at hz0
  have kf : Hid (Below w.heap.size w w1) := hide (by rw [hbw.out]; exact kw.out.trans (k1.mono (by have := hbt.out; omega)))
  clear k1
  go_wp2
  refine bodyPost_ret (results_tmp2 rfl _ _ _) rfl ⟨kf.out, .inl ⟨?_, ?_⟩⟩
  ·unfold clErr; rw [if_pos hd0]; decide
  ·unfold clErr; rw [if_pos hd0]; rfl
 ·rw [decide_eq_false hd0] at hz0
  have y3 := y1.out.below k1
  have q0 := y3.c0
  have q1 := y3.c1
  have hd1 := hide (hd.out.below k1)
  have hr1 := hide (hrr.out.below k1)
  have y4 := hide (y2.out.below k1)
  have kw1 : Hid (Below w.heap.size w w1) := hide (by rw [hbw.out]; exact kw.out.trans (k1.mono (by have := hbt.out; omega)))
  have hab := hide (abs_n hd1.out.1 (zr_len hd1.out))
  have hlz := hide hd1.out.2
  clear k1 y1 y2 y3 hd hrr kw
  go_wp2_with fail
  refine hab.out.mono ?_
  rintro e w2 ⟨s2, a2, l2, c2, rfl, hz2, k2, hl2⟩
  clear hab q0 q1
  have hzl : Hid (l2 ≤ 1099511627776) := hide (by have := hlz.out; omega)
  have hzr := hide hz2.zm
  have y5 := hide (y4.out.below k2)
  have hr2 := hide (hr1.out.below k2)
  have kw2 := hide (grow_step k2 kw1.out)
  clear k2 hr1 y4 kw1 hd1
  by_cases hp : 4096 < d.natAbs
  ·have hpo := hide (periodOf_no (z := ⟨s2, a2, l2, c2⟩) hzr.out hzl.out (by omega))
   go_wp2_with fail
   refine hpo.out.mono ?_
   rintro e w3 ⟨rfl, k3⟩
   have kf := hide (grow_step k3 kw2.out)
   clear hpo k3
   have hne : ((180 : Int) != 0) = true := rfl
   go_wp2
   refine bodyPost_ret (results_tmp2 rfl _ _ _) rfl ⟨kf.out, .inl ⟨?_, ?_⟩⟩
   ·unfold clErr; rw [if_neg hd0, if_pos hp]; decide
   ·unfold clErr; rw [if_neg hd0, if_pos hp]; rfl
  ·have hpo := hide (periodOf_yes (z := ⟨s2, a2, l2, c2⟩) hzr.out hzl.out (by omega) (by omega))
   go_wp2_with fail
   refine hpo.out.mono ?_
   rintro e w3 ⟨rfl, k3⟩
   have y6 := hide (y5.out.below k3)
   have hr3 := hide (hr2.out.below k3)
   have kw3 := hide (grow_step k3 kw2.out)
   clear hpo k3 hr2 y5 kw2 hzr hz2
   have hne : ((0 : Int) != 0) = false := rfl
   have hp1 : 1 ≤ d.natAbs := by omega
   have hp2 : d.natAbs ≤ 4096 := by omega
   have herr : Hid (clErr d = 0) := hide (by unfold clErr; rw [if_neg hd0, if_neg hp])
   generalize hpd : d.natAbs = p at *
   replace hpd := hide hpd
   have hnr := hide (newRow_n hp2 w3)
   go_wp2_with fail
   refine hnr.out.mono ?_
   rintro e w4 ⟨rfl, rfl⟩
   clear hnr
   have hg3 : Hid (w.heap.size ≤ w3.heap.size) := hide kw3.out.size
   have b4 := below_alloc w3 (.cells (Uw (List.replicate (wn p) 0)) 117)
   have g4 := rb_new w3 (List.replicate (wn p) 0)
   have y7 := y6.out.below b4
   have hr4 := hr3.out.below b4
   have kw4 := hide (grow_step b4 kw3.out)
   have q0 := y7.c0
   have q1 := y7.c1
   generalize w3.alloc (.cells (Uw (List.replicate (wn p) 0)) 117) = w4 at *
   generalize w3.heap.size = g at *
   have hre := hide (remainderOf_n hr4.1 (zr_len hr4) hp1 hp2)
   replace g4 := hide g4
   clear b4 y7 y6 hr3 kw3
   go_wp2_with fail
   refine hre.out.mono ?_
   rintro e w5 ⟨rfl, k5⟩
   clear hre q0 q1
   have g5 := g4.out.below k5
   have kw5 := hide (grow_step k5 kw4.out)
   have hm := mod_lt' hp1 r
   have hnn := Int.emod_nonneg r (show (p : Int) ≠ 0 by omega)
   obtain ⟨m, hme⟩ : ∃ m : Nat, r % (p : Int) = m := ⟨(r % (p : Int)).toNat, by omega⟩
   have hmn : (r % (p : Int)).toNat = m := by omega
   rw [hmn] at hm
   have had := hide (add_n g5 List.length_replicate (r := m) (lt_wn hm) (by omega))
   have hcm := hide (fun x => cls_mem hp1 r x)
   have hro := hide (cls_rok hp1 r)
   rw [hmn] at hcm hro
   rw [hme]
   replace hme := hide hme
   clear k5 g4 hr4 kw4 hmn hnn g5
   go_wp2_with fail
   refine had.out.mono ?_
   rintro e w6 ⟨rfl, g6, o6⟩
   clear had
   have kw6 : Hid (Below w.heap.size w w6) := hide (kw5.out.trans (o6.below hg3.out))
   have hps := hide (ps_one g6 hro.out hp1 hp2)
   have hyo := hide ((yo_one w6 g (wn p) p).mono kw6.out.size)
   clear g6 o6 kw5
   go_wp2
   refine bodyPost_ret (results_tmp2 rfl _ _ _) rfl ⟨?_, .inr ⟨herr.out, _, ⟨p, [], [adB (List.replicate (wn p) 0) m]⟩, rfl, ?_, ?_, hpd.out.symm, Nat.le_refl _, fun x => ?_, ?_⟩⟩
   ·have := grow_step hps.out.2 kw6.out
    simpa using this
   ·have := hps.out.1
    simpa using this
   ·have := hyo.out
    simpa using this
   ·rw [hpd.out]
    exact hcm.out x
   ·rw [hpd.out, hme.out, Int.toNat_natCast]
set_option maxRecDepth 100000 in
set_option maxHeartbeats 6400000 in
theorem above_y {w : World} {s : Bool} {a : Option Addr} {l c : Nat} {k : Int} (h : Zm w s a l c k) (hl : l ≤ 536870912) :
  Calls Tryz.prog 43 #[.agg #[.bool s, .slice a l c]] w fun e w' => ∃ b D, e = .returned (.pointer (some ⟨b, 0, none⟩)) ∧ PS w' b D ∧ Yo w.heap.size w' b ∧ Below w.heap.size w w' ∧ D.p = 1 ∧ D.cs = [k + 1] ∧ ∀ x, mem D x = decide (k < x) := by
 have b0 := below_alloc w (.cells #[.bool s, .slice a l c] 38)
 have y0 := zb_new w s a l c
 have hx0 := h.below b0
 have hnr := hide (newRow_n (p := 1) (by decide) (w.alloc (.cells #[.bool s, .slice a l c] 38)))
 clear h
 go_enter Tryz.func43, Tryz.ntmps43
 go_wp2_with fail
 refine hnr.out.mono ?_
 rintro e w1 ⟨rfl, rfl⟩
 clear hnr
 generalize w.alloc (.cells #[.bool s, .slice a l c] 38) = w0 at *
 have b1 := below_alloc w0 (.cells (Uw (List.replicate (wn 1) 0)) 117)
 have g1 := rb_new w0 (List.replicate (wn 1) 0)
 have y1 := hide (y0.below b1)
 have hx1 := hide (hx0.below b1)
 have kw := hide (grow_step b1 b0)
 clear b0 b1 y0 hx0
 generalize w0.alloc (.cells (Uw (List.replicate (wn 1) 0)) 117) = w1 at *
 generalize w0.heap.size = g at *
 have hle : Hid (w.heap.size ≤ w1.heap.size) := hide kw.out.size
 generalize hbt : w.heap.size = bt at *
 replace hbt := hide hbt
 replace g1 := hide g1
 have hof := fun u : World => hide (zof_n 1 (by decide) (by decide) u)
 go_upto_region 2 with (fail)
 refine wp_region_held_drew (S := (fun w' => w'.cell? ⟨bt, 0, none⟩ = some (.bool s) ∧ w'.cell? ⟨bt, 1, none⟩ = some (.slice a l c))) (by kernel_rfl) (⟨(y1.out.below (grow_drew (Below.refl _ _))).c0, (y1.out.below (grow_drew (Below.refl _ _))).c1⟩) (fun hHeld => ?_)
 show wpAnyH _ _ _ _ _ 11 _ _ _
 have kW := grow_drew (Below.refl w1.heap.size w1)
 generalize w1.drew = wQ at *
 repeat' first
  | with_reducible exact AllReadyH.nil
  | (
   refine wpAnyH_take (i := 0) (oi := ⟨some 5, _, _, _, _, _⟩) (v := ?_) rfl (by decide +kernel) (by decide +kernel) (by decide +kernel) (fun _ _ _ h => h) (Or.inl ⟨by rfl, ?_⟩) (by assumption) ?_
   rotate_left
   ·intro wq hSw; (try dsimp only at hSw); go_simp; (try with_reducible rfl)
   (try simp only [Act.put, List.setIfInBounds_toArray, List.set_cons_zero, List.set_cons_succ]))
  | (
   refine wpAnyH_take (i := 4) (oi := ⟨some 9, _, _, _, _, _⟩) (v := ?_) rfl (by decide +kernel) (by decide +kernel) (by decide +kernel) (fun _ _ _ h => h) (Or.inl ⟨by rfl, ?_⟩) (by assumption) ?_
   rotate_left
   ·intro wq hSw; (try dsimp only at hSw); go_simp; (try with_reducible rfl)
   (try simp only [Act.put, List.setIfInBounds_toArray, List.set_cons_zero, List.set_cons_succ]))
  | (
   refine wpAnyH_take (i := 5) (oi := ⟨some 10, _, _, _, _, _⟩) (v := ?_) rfl (by decide +kernel) (by decide +kernel) (by decide +kernel) (fun _ _ _ h => h) (Or.inl ⟨by rfl, ?_⟩) (by assumption) ?_
   rotate_left
   ·intro wq hSw; (try dsimp only at hSw); go_simp; (try with_reducible rfl)
   (try simp only [Act.put, List.setIfInBounds_toArray, List.set_cons_zero, List.set_cons_succ]))
  | (
   refine wpAnyH_take (i := 8) (oi := ⟨some 13, _, _, _, _, _⟩) (v := ?_) rfl (by decide +kernel) (by decide +kernel) (by decide +kernel) (fun _ _ _ h => h) (Or.inl ⟨by rfl, ?_⟩) (by assumption) ?_
   rotate_left
   ·intro wq hSw; (try dsimp only at hSw); go_simp; (try with_reducible rfl)
   (try simp only [Act.put, List.setIfInBounds_toArray, List.set_cons_zero, List.set_cons_succ]))
  | (refine wpAnyH_ready (rs := [1]) ?_ ?_ ?_; decide +kernel; simp)
  | (refine wpAnyH_ready (rs := [2]) ?_ ?_ ?_; decide +kernel; simp)
  | (refine wpAnyH_ready (rs := [3, 6]) ?_ ?_ ?_; decide +kernel; simp)
  | (refine wpAnyH_ready (rs := [6]) ?_ ?_ ?_; decide +kernel; simp)
  | (refine wpAnyH_ready (rs := [7]) ?_ ?_ ?_; decide +kernel; simp)
  | (refine wpAnyH_ready (rs := [9]) ?_ ?_ ?_; decide +kernel; simp)
  | (refine wpAnyH_ready (rs := [10]) ?_ ?_ ?_; decide +kernel; simp)
  | (refine wpAnyH_ready (rs := [3, 7]) ?_ ?_ ?_; decide +kernel; simp)
  | (refine wpAnyH_ready (rs := [3]) ?_ ?_ ?_; decide +kernel; simp)
  | (
   first
    | (
     refine AllReadyH.cons (i := 1) (o := ⟨some 6, _, _, _, _, _⟩) rfl (fun K hK => ?_) ?_
     go_simp
     go_at_call 67; refine Calls.mono (hof _).out ?_; rintro e wA ⟨sA, aA, lA, cA, rfl, hzA, kA, hlA⟩
     try have hzB := hzB.below kA
     try have c8 := c8.below kA
     try have gO := gO.below kA
     try have c12 := c12.below kA
     try have cS := cS.below kA
     have kW := grow_step kA kW
     try go_wp2_with fail)
    | (
     refine AllReadyH.cons (i := 2) (o := ⟨some 7, _, _, _, _, _⟩) rfl (fun K hK => ?_) ?_
     go_simp
     go_at_call 69; refine Calls.mono (Fresh.zadd_n (B := 0) (Fresh.zm_of (hx1.out.below kW) (Nat.zero_le _)) (Fresh.zm_of hzA.zm (Nat.zero_le _)) (by omega) (by omega)) ?_; rintro e wB ⟨sB, aB, lB, cB, rfl, hzB, kB, hlB⟩
     try have hzA := hzA.below kB
     try have c8 := c8.below kB
     try have gO := gO.below kB
     try have c12 := c12.below kB
     try have cS := cS.below kB
     have kW := grow_step kB kW
     try go_wp2_with fail)
    | (
     refine AllReadyH.cons (i := 3) (o := ⟨some 8, _, _, _, _, _⟩) rfl (fun K hK => ?_) ?_
     obtain ⟨wL, b8, eL, eb8, c8, hbc8, kL, kW⟩ := al_b kW (.cells #[.bool sB, .slice aB lB cB] 38)
     try have hzA := hzA.below kL
     try have hzB := hzB.below kL
     try have gO := gO.below kL
     try have c12 := c12.below kL
     try have cS := cS.below kL
     go_simp
     rw [eL.out]
     (try simp only [eb8.out]))
    | (
     refine AllReadyH.cons (i := 6) (o := ⟨some 11, _, _, _, _, _⟩) rfl (fun K hK => ?_) ?_
     go_simp
     go_at_call 90; refine Calls.mono (others_g (p := 1) (g1.out.below kW) (rok_zero 1) (by decide) (by decide)) ?_; rintro e wC ⟨g2, ys, rfl, gO, kC, hRo, hyo, -⟩
     try have hzA := hzA.below kC
     try have hzB := hzB.below kC
     try have c8 := c8.below kC
     try have c12 := c12.below kC
     try have cS := cS.below kC
     have kW := grow_step kC kW
     try go_wp2_with fail)
    | (
     refine AllReadyH.cons (i := 7) (o := ⟨some 12, _, _, _, _, _⟩) rfl (fun K hK => ?_) ?_
     obtain ⟨wL, b12, eL, eb12, c12, hbc12, kL, kW⟩ := al_b kW (.cells #[.slice (some ⟨g, 0, none⟩) (wn 1) (wn 1), .slice (some ⟨g2, 0, none⟩) (wn 1) (wn 1)] 78)
     try have hzA := hzA.below kL
     try have hzB := hzB.below kL
     try have c8 := c8.below kL
     try have gO := gO.below kL
     try have cS := cS.below kL
     go_simp
     rw [eL.out]
     (try simp only [eb12.out]))
    | (
     refine AllReadyH.cons (i := 9) (o := ⟨some 14, _, _, _, _, _⟩) rfl (fun K hK => ?_) ?_
     obtain ⟨wL, bs, eL, ebs, cS, hbcS, kL, kW⟩ := al_b kW (.cells #[.int .i64 1, .slice (some ⟨b8, 0, none⟩) 1 1, .slice (some ⟨b12, 0, none⟩) 2 2] 82)
     try have hzA := hzA.below kL
     try have hzB := hzB.below kL
     try have c8 := c8.below kL
     try have gO := gO.below kL
     try have c12 := c12.below kL
     go_simp
     rw [eL.out]
     (try simp only [ebs.out]))
    | (
     refine AllReadyH.cons (i := 10) (o := ⟨some 2, _, _, _, _, _⟩) rfl (fun K hK => ?_) ?_
     go_simp)
   refine hK.out _ _ ?_ ?_
   ·first | with_reducible exact trivial | ((try dsimp only); exact ⟨(y1.out.below kW).c0, (y1.out.below kW).c1⟩)
   clear hK K hHeld; intro hHeld
   (try simp only [Act.put, List.setIfInBounds_toArray, List.set_cons_zero, List.set_cons_succ]))
 all_goals
  refine wpAnyH_done ?_ ?_ _
  ·decide +kernel
  have hps := hide (ps_above hzB (by omega) c8 (g1.out.below kW) gO c12 cS hRo (by rw [hyo 0 (by decide), hb_rep]; rfl))
  have hyo2 : Hid (Yo w.heap.size _ bs) := hide ⟨⟨some ⟨b8, 0, none⟩, 1, 1, some ⟨b12, 0, none⟩, 2, 2⟩, 1, cS, fun _ g off e => (by cases e; have := hle.out; have := hbt.out; omega), fun _ g off e => (by cases e; have := hle.out; have := hbt.out; omega)⟩
  have hm := hide (fun x => mem_above (k := k) (ys := ys) (by rw [hyo 0 (by decide), hb_rep]; rfl) x)
  have kf : Hid (Below w.heap.size w _) := hide (by rw [hbt.out]; exact kw.out.trans (kW.mono hle.out))
  clear hzA hzB c8 gO c12 cS kW hHeld hof hyo hRo y1 hx1 g1
  go_wp2
  exact bodyPost_ret (results_tmp rfl _ _ _) rfl ⟨_, _, rfl, hps.out, hyo2.out, kf.out, rfl, rfl, hm.out⟩
end Pd
end Go.Proofs.YtfannonacamhhaaGreat

namespace Go.Proofs.YtfannonacamhhaaGreat
open Go.RowKit
namespace Pd

set_option maxRecDepth 100000 in
set_option maxHeartbeats 6400000 in
theorem rest_y {F : Nat} {w : World} {b : Nat} {D : PD} (h : PS w b D) (hy : Yo F w b) (hF : F ≤ w.heap.size) (hf : D.cs.length ≤ 1073741823) :
  Calls Tryz.prog 38 #[.pointer (some ⟨b, 0, none⟩)] w fun e w' => ∃ b' D', e = .returned (.pointer (some ⟨b', 0, none⟩)) ∧ PS w' b' D' ∧ Yo F w' b' ∧ Below w.heap.size w w' ∧ D'.p = D.p ∧ D'.cs = D.cs ∧ ∀ x, mem D' x = !mem D x := by
 obtain ⟨v, hb0, hcl0, hrl0⟩ := h.blk
 have hwf := hide h.wf
 have hyc : Hid (0 < v.cn → ∀ g off, v.ca = some ⟨g, off, none⟩ → F ≤ g) := hide (by
  obtain ⟨v2, p2, g1, g2, -⟩ := hy
  obtain rfl := sb_uniq hb0 g1
  exact g2)
 replace hF := hide hF
 clear hy
 have hbne : Hid (b ≠ w.heap.size) := hide (Nat.ne_of_lt hb0.lt)
 have hp1 := h.wf.p1
 have hp2 := h.wf.p2
 have hlr := hide hrl0.len
 have hrn : v.rn ≤ 1073741824 := by rw [← hlr.out, h.wf.len]; omega
 have c0 := hb0.c0
 have c1 := hb0.c1
 replace hb0 := hide hb0
 replace hcl0 := hide hcl0
 replace hrl0 := hide hrl0
 clear h
 go_enter Tryz.func38, Tryz.ntmps38
 go_wp2_with fail
 go_region
 have k1 := grow_drew (below_alloc w (.cells #[.int .i64 D.p, .slice v.ca v.cn v.cc, .slice none 0 0] 82))
 have m1 : SB (w.alloc (.cells #[.int .i64 D.p, .slice v.ca v.cn v.cc, .slice none 0 0] 82)).drew w.heap.size D.p ⟨v.ca, v.cn, v.cc, none, 0, 0⟩ := sb_new w D.p ⟨v.ca, v.cn, v.cc, none, 0, 0⟩
 have hb1 := hb0.out.below k1
 have d2 := hb1.c2
 generalize (w.alloc (.cells #[.int .i64 D.p, .slice v.ca v.cn v.cc, .slice none 0 0] 82)).drew = w1 at *
 obtain ⟨bm, hbm⟩ : ∃ bm, w.heap.size = bm := ⟨_, rfl⟩
 rw [hbm] at m1
 replace k1 := hide k1
 replace m1 := hide m1
 clear c0 c1 hb1
 simp only [hbm]
 rw [hbm] at hbne
 have hbm' : bm = w.heap.size := hbm.symm
 clear hbm
 replace hbm' := hide hbm'
 go_wp2_with fail
 clear d2
 go_loopw [23] (fun vi wr => ∃ (k : Nat) (q : List Nat) (R : List (List Int)) (ra : Option Addr) (rc : Nat), k ≤ v.rn ∧ vi = .int .i64 k ∧ SB wr bm D.p ⟨v.ca, v.cn, v.cc, ra, k, rc⟩ ∧ wr.ownsRow w.heap.size 78 1 (.slice ra k rc) k (encL (encr (wn D.p)) q) ∧ Rws wr q R ∧ R.length = k ∧ Cpl D.p D.rs R ∧ Below w.heap.size w wr) (fun vi _ => v.rn - (intOf vi).toNat)
 case atStart => exact ⟨0, [], [], none, 0, Nat.zero_le _, rfl, m1.out, World.ownsRow_nil _ _ _ _, rws_nil _, rfl, cpl_nil _ _, k1.out⟩
 case round =>
  obtain ⟨k, q, R, ra, rc, hk, rfl, hm, hown, hq, hRl, hR, kr⟩ := hrel
  replace hRl := hide hRl
  by_cases hkn : k < v.rn
  ·obtain ⟨rb, off, g, hra, hrb, e0, hg⟩ := (hrl0.out.below kr).get hkn
   have hks : k < D.rs.length := by rw [hlr.out]; exact hkn
   have hrk := hide (hwf.out.rok hks)
   have hbr := hb0.out.below kr
   replace hg : RB wr g (rw' D k) := hg
   rw [hra]
   replace hra := hide hra
   go_upto_region 7 with (fail)
   have hgl := hide hg
   clear e0 hrb hg
   refine wp_region_held_drew (S := (fun w' => w'.cell? ⟨b, 0, none⟩ = some (.int .i64 D.p))) (by kernel_rfl) ((hbr.below (grow_drew (Below.refl _ _))).c0) (fun hHeld => ?_)
   show wpAnyH _ _ _ _ _ 16 _ _ _
   have kW := grow_drew kr
   have kX := grow_drew (Below.refl wr.heap.size wr)
   have hbW := hbr.below kX
   have cm := hm.below kX
   have hqW := hq.below kX
   have hoW := own_below hown kX
   generalize wr.drew = wQ at *
   repeat' first
    | with_reducible exact AllReadyH.nil
    | (
     refine wpAnyH_take (i := 0) (oi := ⟨some 27, _, _, _, _, _⟩) (v := ?_) rfl (by decide +kernel) (by decide +kernel) (by decide +kernel) (fun _ _ _ h => h) (Or.inl ⟨by rfl, ?_⟩) (by assumption) ?_
     rotate_left
     ·intro wq hSw; (try dsimp only at hSw); go_simp; (try with_reducible rfl)
     (try simp only [Act.put, List.setIfInBounds_toArray, List.set_cons_zero, List.set_cons_succ]))
    | (
     refine wpAnyH_take (i := 1) (oi := ⟨some 28, _, _, _, _, _⟩) (v := ?_) rfl (by decide +kernel) (by decide +kernel) (by decide +kernel) (fun _ _ _ h => h) (Or.inl ⟨by rfl, ?_⟩) (by assumption) ?_
     rotate_left
     ·intro wq hSw; (try dsimp only at hSw); go_simp; (try with_reducible rfl)
     (try simp only [Act.put, List.setIfInBounds_toArray, List.set_cons_zero, List.set_cons_succ]))
    | (
     refine wpAnyH_take (i := 2) (oi := ⟨some 29, _, _, _, _, _⟩) (v := ?_) rfl (by decide +kernel) (by decide +kernel) (by decide +kernel) (fun _ _ _ h => h) (Or.inl ⟨by rfl, ?_⟩) (by assumption) ?_
     rotate_left
     ·intro wq hSw; (try dsimp only at hSw); go_simp; (try with_reducible rfl)
     (try simp only [Act.put, List.setIfInBounds_toArray, List.set_cons_zero, List.set_cons_succ]))
    | (
     refine wpAnyH_take (i := 3) (oi := ⟨some 30, _, _, _, _, _⟩) (v := ?_) rfl (by decide +kernel) (by decide +kernel) (by decide +kernel) (fun _ _ _ h => h) (Or.inl ⟨by rfl, ?_⟩) (by assumption) ?_
     rotate_left
     ·intro wq hSw; (try dsimp only at hSw); go_simp; (try with_reducible rfl)
     (try simp only [Act.put, List.setIfInBounds_toArray, List.set_cons_zero, List.set_cons_succ]))
    | (
     refine wpAnyH_take (i := 5) (oi := ⟨some 32, _, _, _, _, _⟩) (v := ?_) rfl (by decide +kernel) (by decide +kernel) (by decide +kernel) (fun _ _ _ h => h) (Or.inl ⟨by rfl, ?_⟩) (by assumption) ?_
     rotate_left
     ·intro wq hSw; (try dsimp only at hSw); go_simp; (try with_reducible rfl)
     (try simp only [Act.put, List.setIfInBounds_toArray, List.set_cons_zero, List.set_cons_succ]))
    | (
     refine wpAnyH_take (i := 6) (oi := ⟨some 33, _, _, _, _, _⟩) (v := ?_) rfl (by decide +kernel) (by decide +kernel) (by decide +kernel) (fun _ _ _ h => h) (Or.inl ⟨by rfl, ?_⟩) (by assumption) ?_
     rotate_left
     ·intro wq hSw; (try dsimp only at hSw); go_simp; (try with_reducible rfl)
     (try simp only [Act.put, List.setIfInBounds_toArray, List.set_cons_zero, List.set_cons_succ]))
    | (
     refine wpAnyH_take (i := 7) (oi := ⟨some 34, _, _, _, _, _⟩) (v := ?_) rfl (by decide +kernel) (by decide +kernel) (by decide +kernel) (fun _ _ _ h => h) (Or.inl ⟨by rfl, ?_⟩) (by assumption) ?_
     rotate_left
     ·intro wq hSw; (try dsimp only at hSw); go_simp; (try with_reducible rfl)
     (try simp only [Act.put, List.setIfInBounds_toArray, List.set_cons_zero, List.set_cons_succ]))
    | (
     refine wpAnyH_take (i := 8) (oi := ⟨some 35, _, _, _, _, _⟩) (v := ?_) rfl (by decide +kernel) (by decide +kernel) (by decide +kernel) (fun _ _ _ h => h) (Or.inl ⟨by rfl, ?_⟩) (by assumption) ?_
     rotate_left
     ·intro wq hSw; (try dsimp only at hSw); go_simp; (try with_reducible rfl)
     (try simp only [Act.put, List.setIfInBounds_toArray, List.set_cons_zero, List.set_cons_succ]))
    | (
     refine wpAnyH_take (i := 9) (oi := ⟨some 36, _, _, _, _, _⟩) (v := ?_) rfl (by decide +kernel) (by decide +kernel) (by decide +kernel) (fun _ _ _ h => h) (Or.inl ⟨by rfl, ?_⟩) (by assumption) ?_
     rotate_left
     ·intro wq hSw; (try dsimp only at hSw); go_simp; (try with_reducible rfl)
     (try simp only [Act.put, List.setIfInBounds_toArray, List.set_cons_zero, List.set_cons_succ]))
    | (
     refine wpAnyH_take (i := 13) (oi := ⟨some 40, _, _, _, _, _⟩) (v := ?_) rfl (by decide +kernel) (by decide +kernel) (by decide +kernel) (fun _ _ _ h => h) (Or.inl ⟨by rfl, ?_⟩) (by assumption) ?_
     rotate_left
     ·intro wq hSw; (try dsimp only at hSw); go_simp; (try with_reducible rfl)
     (try simp only [Act.put, List.setIfInBounds_toArray, List.set_cons_zero, List.set_cons_succ]))
    | (
     refine wpAnyH_take (i := 14) (oi := ⟨some 41, _, _, _, _, _⟩) (v := ?_) rfl (by decide +kernel) (by decide +kernel) (by decide +kernel) (fun _ _ _ h => h) (Or.inl ⟨by rfl, ?_⟩) (by assumption) ?_
     rotate_left
     ·intro wq hSw; (try dsimp only at hSw); go_simp; (try with_reducible rfl)
     (try simp only [Act.put, List.setIfInBounds_toArray, List.set_cons_zero, List.set_cons_succ]))
    | (refine wpAnyH_ready (rs := [4, 10]) ?_ ?_ ?_; decide +kernel; simp)
    | (refine wpAnyH_ready (rs := [10]) ?_ ?_ ?_; decide +kernel; simp)
    | (refine wpAnyH_ready (rs := [11]) ?_ ?_ ?_; decide +kernel; simp)
    | (refine wpAnyH_ready (rs := [12]) ?_ ?_ ?_; decide +kernel; simp)
    | (refine wpAnyH_ready (rs := [15]) ?_ ?_ ?_; decide +kernel; simp)
    | (refine wpAnyH_ready (rs := [4, 11]) ?_ ?_ ?_; decide +kernel; simp)
    | (refine wpAnyH_ready (rs := [4]) ?_ ?_ ?_; decide +kernel; simp)
    | (
     first
      | (
       refine AllReadyH.cons (i := 4) (o := ⟨some 31, _, _, _, _, _⟩) rfl (fun K hK => ?_) ?_
       have f4 := cm.c2
       go_simp)
      | (
       refine AllReadyH.cons (i := 10) (o := ⟨some 37, _, _, _, _, _⟩) rfl (fun K hK => ?_) ?_
       go_simp
       go_at_call 90; refine Calls.mono (others_g (RB.below hgl.out kX) hrk.out hp1 hp2) ?_; rintro e wC ⟨g2, ys, rfl, gO, kC, hRo, hyo, -⟩
       try have hbW := hbW.below kC
       try have cm := cm.below kC
       try have hqW := hqW.below kC
       try have c38 := c38.below kC
       try have hoW := own_below hoW kC
       have kW := grow_step kC kW
       try go_wp2_with fail)
      | (
       refine AllReadyH.cons (i := 11) (o := ⟨some 38, _, _, _, _, _⟩) rfl (fun K hK => ?_) ?_
       obtain ⟨wL, b38, eL, e38, c38, -, kL, kW⟩ := al_b kW (.cells #[.slice (some ⟨g2, 0, none⟩) (wn D.p) (wn D.p)] 78)
       try have hbW := hbW.below kL
       try have cm := cm.below kL
       try have hqW := hqW.below kL
       try have gO := gO.below kL
       try have hoW := own_below hoW kL
       go_simp
       rw [eL.out]
       (try simp only [e38.out]))
      | (
       refine AllReadyH.cons (i := 12) (o := ⟨some 39, _, _, _, _, _⟩) rfl (fun K hK => ?_) ?_
       refine anyH_append rfl _ _ 80 rfl _ _ rfl rfl _ (runR hoW g2 b38 1 (cell_of_row _ b38 0 _ _ (0, 0) c38) (by omega) kW.size _) ?_
       rintro v' wD ⟨hoD, hgD, -⟩
       have hob := own_blk hoW
       have hne64 : ∀ g, Value.ownBlock (.slice ra k rc) = some g → ∃ e, Own _ g e ∧ 117 ≠ e := fun g e => ⟨_, (hob g e).2, by decide⟩
       have hneS : ∀ g, Value.ownBlock (.slice ra k rc) = some g → ∃ e, Own _ g e ∧ 82 ≠ e := fun g e => ⟨_, (hob g e).2, by decide⟩
       have hbW := hbW.grown hgD hneS
       have cm := cm.grown hgD hneS
       have hqW := rws_snoc (hqW.grown hgD hne64) (gO.grown hgD hne64)
       have kW := below_grown kW hgD (fun g e => (hob g e).1) kW.size
       obtain ⟨-, ra', rc', rfl, -⟩ := own_any (by decide) (encr_len _) hoD
       clear hob hne64 hneS hgD)
      | (
       refine AllReadyH.cons (i := 15) (o := ⟨none, _, _, _, _, _⟩) rfl (fun K hK => ?_) ?_
       have f0 := cm.c2
       have f1 := cm.f 2
       go_simp
       have oS := Only.set bm 2 wD (.slice ra' (k + 1) rc')
       have hbW := (oS.block b hbne.out).trans hbW
       have hqW := Rws.only hqW oS cm
       have hoD := own_only hoD oS (fun g e => (own_blk hoD g e).2.ne cm (by decide))
       have cm := sb_set cm ra' (k + 1) rc'
       have kW := kW.setCell (p := ⟨bm, 2, none⟩) (Nat.le_of_eq hbm'.out.symm) (.slice ra' (k + 1) rc'))
     refine hK.out _ _ ?_ ?_
     ·first | with_reducible exact trivial | ((try dsimp only); exact SB.c0 hbW)
     clear hK K hHeld; intro hHeld
     (try simp only [Act.put, List.setIfInBounds_toArray, List.set_cons_zero, List.set_cons_succ]))
   all_goals
    refine wpAnyH_done ?_ ?_ _
    ·decide +kernel
    have hR2 := cpl_snoc hR hRo (by rw [hRl.out]; exact hyo)
    replace hR2 := hide hR2
    clear hbW hHeld
    generalize hwz : wD.setCell ⟨bm, 2, none⟩ (.slice ra' (k + 1) rc') = wZ at *
    clear hwz
    go_wp2
    go_roundw
    case measure => simp [intOf]; omega
    case rel => exact ⟨k + 1, _, _, ra', rc', by omega, by go_num, cm, hoD, hqW, by simp [hRl.out], hR2.out, kW⟩
  ·obtain rfl : k = v.rn := by omega
   obtain ⟨ra', rc', he, hrl2⟩ := rls_own hown hq
   obtain ⟨hw1, hw2⟩ := wf_rest hwf.out hR (by rw [hRl.out, hlr.out])
   have hps : Hid (PS wr bm ⟨D.p, D.cs, R⟩) := hide (by cases he; exact ⟨hw1, _, hm, hcl0.out.below kr, hrl2⟩)
   have hyo : Hid (Yo F wr bm) := hide ⟨_, _, hm, hyc.out, fun h0 g off e => (by
    obtain ⟨-, a, c, e1, -, -, ⟨h1, -⟩ | ⟨g', e2, h2, -⟩⟩ := own_any (by decide) (encr_len _) hown
    ·dsimp only at h0
     omega
    ·cases e1
     dsimp only at e
     rw [e2] at e
     cases e
     exact Nat.le_trans hF.out h2)⟩
   clear hm hown hq hrl2 he
   go_wp2
   exact bodyPost_ret (results_tmp rfl _ _ _) rfl ⟨bm, _, rfl, hps.out, hyo.out, kr, rfl, rfl, hw2⟩
end Pd
end Go.Proofs.YtfannonacamhhaaGreat

namespace Go.Proofs.YtfannonacamhhaaGreat
open Go.RowKit
namespace Pd

set_option maxRecDepth 100000 in
set_option maxHeartbeats 12800000 in
theorem joined_y {w : World} {bA bB KF : Nat} {A B : PD} {op : Int → Int → Int} {ob : Bool → Bool → Bool} (hA : PS w bA A) (hB : PS w bB B) (hfA : A.cs.length ≤ 536869999) (hfB : B.cs.length ≤ 536869999) (hop : Tkf op ob)
  (hTk : ∀ {w : World} {b ba bb n : Nat} {xs xa xb : List Int}, RB w b xs → RB w ba xa → RB w bb xb → xs.length = n → xa.length = n → xb.length = n → n ≤ 65 → ba ≠ b → bb ≠ b → Calls Tryz.prog KF #[.slice (some ⟨b, 0, none⟩) n n, .slice (some ⟨ba, 0, none⟩) n n, .slice (some ⟨bb, 0, none⟩) n n] w fun e w' => e = .returned (.tuple #[]) ∧ RB w' b (zipB op xa xb n) ∧ Only b w w')
  (hcf : ∀ (a b c : Value) (u : World), (callFunc KF #[a, b, c]).run Tryz.prog u = .ok (.enter KF #[a, b, c]) u) :
  Calls Tryz.prog 63 #[.pointer (some ⟨bA, 0, none⟩), .pointer (some ⟨bB, 0, none⟩), .func (.func KF) #[] #[]] w fun e w' => GotY w w' e (jErr (Nat.lcm A.p B.p)) (Nat.lcm A.p B.p) (fun x => ob (mem A x) (mem B x)) (A.cs.length + B.cs.length) (Jx op A B) := by
 have hwA := hide hA.wf
 have hwB := hide hB.wf
 obtain ⟨vA, sA, clA, rlA⟩ := hA.blk
 obtain ⟨vB, sB, clB, rlB⟩ := hB.blk
 have hp1 := hwA.out.p1
 have hp2 := hwA.out.p2
 have hq1 := hwB.out.p1
 have hq2 := hwB.out.p2
 replace sA := hide sA
 replace sB := hide sB
 replace clA := hide clA
 replace clB := hide clB
 replace rlA := hide rlA
 replace rlB := hide rlB
 replace hcf := hide hcf
 have hLd : Hid (1 ≤ Nat.lcm A.p B.p ∧ A.p ∣ Nat.lcm A.p B.p ∧ B.p ∣ Nat.lcm A.p B.p) := hide ⟨Nat.lcm_pos (by omega) (by omega), Nat.dvd_lcm_left _ _, Nat.dvd_lcm_right _ _⟩
 clear hA hB
 go_enter Tryz.func63, Tryz.ntmps63
 go_upto_region 3 with (fail)
 have hofA := fun u : World => hide (zof_n (A.p : Int) (by omega) (by omega) u)
 have hofB := fun u : World => hide (zof_n (B.p : Int) (by omega) (by omega) u)
 have hlc : ∀ {u : World} {s : Bool} {a : Option Addr} {l c : Nat}, Zm u s a l c (lcmI ((A.p : Int).natAbs : Int) ((B.p : Int).natAbs : Int)) → Zm u s a l c ((Nat.lcm A.p B.p : Nat) : Int) := fun h => by rwa [lcm_nat] at h
 refine wp_region_held_drew (S := (fun w' => w'.cell? ⟨bA, 0, none⟩ = some (.int .i64 A.p) ∧ w'.cell? ⟨bB, 0, none⟩ = some (.int .i64 B.p))) (by kernel_rfl) (⟨(sA.out.below (grow_drew (Below.refl _ _))).c0, (sB.out.below (grow_drew (Below.refl _ _))).c0⟩) (fun hHeld => ?_)
 show wpAnyH _ _ _ _ _ 18 _ _ _
 have kW := grow_drew (Below.refl w.heap.size w)
 generalize w.drew = wQ at *
 repeat' first
  | with_reducible exact AllReadyH.nil
  | (
   refine wpAnyH_take (i := 0) (oi := ⟨some 23, _, _, _, _, _⟩) (v := ?_) rfl (by decide +kernel) (by decide +kernel) (by decide +kernel) (fun _ _ _ h => h) (Or.inl ⟨by rfl, ?_⟩) (by assumption) ?_
   rotate_left
   ·intro wq hSw; (try dsimp only at hSw); go_simp; (try with_reducible rfl)
   (try simp only [Act.put, List.setIfInBounds_toArray, List.set_cons_zero, List.set_cons_succ]))
  | (
   refine wpAnyH_take (i := 1) (oi := ⟨some 24, _, _, _, _, _⟩) (v := ?_) rfl (by decide +kernel) (by decide +kernel) (by decide +kernel) (fun _ _ _ h => h) (Or.inl ⟨by rfl, ?_⟩) (by assumption) ?_
   rotate_left
   ·intro wq hSw; (try dsimp only at hSw); go_simp; (try with_reducible rfl)
   (try simp only [Act.put, List.setIfInBounds_toArray, List.set_cons_zero, List.set_cons_succ]))
  | (
   refine wpAnyH_take (i := 2) (oi := ⟨some 25, _, _, _, _, _⟩) (v := ?_) rfl (by decide +kernel) (by decide +kernel) (by decide +kernel) (fun _ _ _ h => h) (Or.inl ⟨by rfl, ?_⟩) (by assumption) ?_
   rotate_left
   ·intro wq hSw; (try dsimp only at hSw); go_simp; (try with_reducible rfl)
   (try simp only [Act.put, List.setIfInBounds_toArray, List.set_cons_zero, List.set_cons_succ]))
  | (
   refine wpAnyH_take (i := 3) (oi := ⟨some 26, _, _, _, _, _⟩) (v := ?_) rfl (by decide +kernel) (by decide +kernel) (by decide +kernel) (fun _ _ _ h => h) (Or.inl ⟨by rfl, ?_⟩) (by assumption) ?_
   rotate_left
   ·intro wq hSw; (try dsimp only at hSw); go_simp; (try with_reducible rfl)
   (try simp only [Act.put, List.setIfInBounds_toArray, List.set_cons_zero, List.set_cons_succ]))
  | (
   refine wpAnyH_take (i := 5) (oi := ⟨some 28, _, _, _, _, _⟩) (v := ?_) rfl (by decide +kernel) (by decide +kernel) (by decide +kernel) (fun _ _ _ h => h) (Or.inl ⟨by rfl, ?_⟩) (by assumption) ?_
   rotate_left
   ·intro wq hSw; (try dsimp only at hSw); go_simp; (try with_reducible rfl)
   (try simp only [Act.put, List.setIfInBounds_toArray, List.set_cons_zero, List.set_cons_succ]))
  | (
   refine wpAnyH_take (i := 6) (oi := ⟨some 29, _, _, _, _, _⟩) (v := ?_) rfl (by decide +kernel) (by decide +kernel) (by decide +kernel) (fun _ _ _ h => h) (Or.inl ⟨by rfl, ?_⟩) (by assumption) ?_
   rotate_left
   ·intro wq hSw; (try dsimp only at hSw); go_simp; (try with_reducible rfl)
   (try simp only [Act.put, List.setIfInBounds_toArray, List.set_cons_zero, List.set_cons_succ]))
  | (
   refine wpAnyH_take (i := 7) (oi := ⟨some 30, _, _, _, _, _⟩) (v := ?_) rfl (by decide +kernel) (by decide +kernel) (by decide +kernel) (fun _ _ _ h => h) (Or.inl ⟨by rfl, ?_⟩) (by assumption) ?_
   rotate_left
   ·intro wq hSw; (try dsimp only at hSw); go_simp; (try with_reducible rfl)
   (try simp only [Act.put, List.setIfInBounds_toArray, List.set_cons_zero, List.set_cons_succ]))
  | (
   refine wpAnyH_take (i := 8) (oi := ⟨some 31, _, _, _, _, _⟩) (v := ?_) rfl (by decide +kernel) (by decide +kernel) (by decide +kernel) (fun _ _ _ h => h) (Or.inl ⟨by rfl, ?_⟩) (by assumption) ?_
   rotate_left
   ·intro wq hSw; (try dsimp only at hSw); go_simp; (try with_reducible rfl)
   (try simp only [Act.put, List.setIfInBounds_toArray, List.set_cons_zero, List.set_cons_succ]))
  | (
   refine wpAnyH_take (i := 13) (oi := ⟨some 22, _, _, _, _, _⟩) (v := ?_) rfl (by decide +kernel) (by decide +kernel) (by decide +kernel) (fun _ _ _ h => h) (Or.inl ⟨by rfl, ?_⟩) (by assumption) ?_
   rotate_left
   ·intro wq hSw; (try dsimp only at hSw); go_simp; (try with_reducible rfl)
   (try simp only [Act.put, List.setIfInBounds_toArray, List.set_cons_zero, List.set_cons_succ]))
  | (
   refine wpAnyH_take (i := 14) (oi := ⟨some 36, _, _, _, _, _⟩) (v := ?_) rfl (by decide +kernel) (by decide +kernel) (by decide +kernel) (fun _ _ _ h => h) (Or.inl ⟨by rfl, ?_⟩) (by assumption) ?_
   rotate_left
   ·intro wq hSw; (try dsimp only at hSw); go_simp; (try with_reducible rfl)
   (try simp only [Act.put, List.setIfInBounds_toArray, List.set_cons_zero, List.set_cons_succ]))
  | (
   refine wpAnyH_take (i := 15) (oi := ⟨some 37, _, _, _, _, _⟩) (v := ?_) rfl (by decide +kernel) (by decide +kernel) (by decide +kernel) (fun _ _ _ h => h) (Or.inl ⟨by rfl, ?_⟩) (by assumption) ?_
   rotate_left
   ·intro wq hSw; (try dsimp only at hSw); go_simp; (try with_reducible rfl)
   (try simp only [Act.put, List.setIfInBounds_toArray, List.set_cons_zero, List.set_cons_succ]))
  | (refine wpAnyH_ready (rs := [4]) ?_ ?_ ?_; decide +kernel; simp)
  | (refine wpAnyH_ready (rs := [9]) ?_ ?_ ?_; decide +kernel; simp)
  | (refine wpAnyH_ready (rs := [10]) ?_ ?_ ?_; decide +kernel; simp)
  | (refine wpAnyH_ready (rs := [11]) ?_ ?_ ?_; decide +kernel; simp)
  | (refine wpAnyH_ready (rs := [12]) ?_ ?_ ?_; decide +kernel; simp)
  | (refine wpAnyH_ready (rs := [16]) ?_ ?_ ?_; decide +kernel; simp)
  | (refine wpAnyH_ready (rs := [17]) ?_ ?_ ?_; decide +kernel; simp)
  | (
   first
    | (
     refine AllReadyH.cons (i := 4) (o := ⟨some 27, _, _, _, _, _⟩) rfl (fun K hK => ?_) ?_
     go_simp
     go_at_call 67; refine Calls.mono (hofA _).out ?_; rintro e w1 ⟨s1, a1, l1, c1, rfl, hzA, k1, hl1⟩
     try have hzB := hzB.below k1
     have kW := grow_step k1 kW
     try go_wp2_with fail)
    | (
     refine AllReadyH.cons (i := 9) (o := ⟨some 32, _, _, _, _, _⟩) rfl (fun K hK => ?_) ?_
     go_simp
     go_at_call 67; refine Calls.mono (hofB _).out ?_; rintro e w2 ⟨s2, a2, l2, c2, rfl, hzB, k2, hl2⟩
     try have hzA := hzA.below k2
     have kW := grow_step k2 kW
     try go_wp2_with fail)
    | (
     refine AllReadyH.cons (i := 10) (o := ⟨some 33, _, _, _, _, _⟩) rfl (fun K hK => ?_) ?_
     go_simp
     have kW0 := kW
     have kW := grow_alloc kW (.cells #[.bool s1, .slice a1 l1 c1, .bool s2, .slice a2 l2 c2] 38))
    | (
     refine AllReadyH.cons (i := 11) (o := ⟨some 34, _, _, _, _, _⟩) rfl (fun K hK => ?_) ?_
     go_simp
     go_at_call 106; refine Calls.mono (zlcm2 hzA.zm hzB.zm (by omega) (by omega)) ?_; rintro e w3 ⟨s3, a3, l3, c3, rfl, hz3, k3, hl3⟩
     have kW := grow_step k3 kW0
     try go_wp2_with fail)
    | (
     refine AllReadyH.cons (i := 12) (o := ⟨some 35, _, _, _, _, _⟩) rfl (fun K hK => ?_) ?_
     go_simp
     go_at_call 97; refine Calls.mono (perOf (z := ⟨s3, a3, l3, c3⟩) (hlc hz3.zm) (by show l3 ≤ 1099511627776; omega)) ?_; rintro e w4 ⟨pr, er, rfl, hpe, k4⟩
     have kW := grow_step k4 kW
     try go_wp2_with fail)
    | (
     refine AllReadyH.cons (i := 16) (o := ⟨some 8, _, _, _, _, _⟩) rfl (fun K hK => ?_) ?_
     go_simp)
    | (
     refine AllReadyH.cons (i := 17) (o := ⟨some 9, _, _, _, _, _⟩) rfl (fun K hK => ?_) ?_
     go_simp)
   refine hK.out _ _ ?_ ?_
   ·first | with_reducible exact trivial | ((try dsimp only); exact ⟨(sA.out.below kW).c0, (sB.out.below kW).c0⟩)
   clear hK K hHeld; intro hHeld
   (try simp only [Act.put, List.setIfInBounds_toArray, List.set_cons_zero, List.set_cons_succ]))
 all_goals
  refine wpAnyH_done ?_ ?_ _
  ·decide +kernel
  have kW1 := hide kW
  clear kW hHeld hofA hofB
  rcases hpe with ⟨hbig, rfl, rfl⟩ | ⟨hsm, rfl, rfl⟩
  ·have hne : ((180 : Int) != 0) = true := rfl
   have hfin : Hid (jErr (Nat.lcm A.p B.p) = 180) := hide (if_pos hbig)
   clear hzA hzB hz3
   go_wp2
   refine bodyPost_ret (results_tmp2 rfl _ _ _) rfl ⟨kW1.out, .inl ⟨?_, ?_⟩⟩
   ·first | decide | (rw [hfin.out]; decide)
   ·first | rfl | (rw [hfin.out]; rfl)
  ·have hne : ((0 : Int) != 0) = false := rfl
   have herr : Hid (jErr (Nat.lcm A.p B.p) = 0) := hide (if_neg (by omega))
   have hPe : Hid (Nat.lcm A.p B.p = Nat.lcm A.p B.p) := hide rfl
   obtain ⟨P, hP⟩ : ∃ P, Nat.lcm A.p B.p = P := ⟨_, rfl⟩
   obtain ⟨hP1, hdA, hdB⟩ := hLd.out
   simp only [hP] at hP1 hdA hdB hsm ⊢
   replace hP := hide hP
   replace hdA := hide hdA
   replace hdB := hide hdB
   have hw65 : Hid (wn P ≤ 65) := hide (by unfold wn; omega)
   have hrA := hide (rowsBy_n hwA.out (sA.out.below kW1.out) (rlA.out.below kW1.out) (by omega) hsm)
   clear hzA hzB hz3 hLd hPe
   go_wp2_with fail
   refine hrA.out.mono ?_
   rintro e w5 ⟨raA, rcA, RA, rfl, rlA2, k5, wdA⟩
   have kW2 := hide (grow_step k5 kW1.out)
   have hrB := hide (rowsBy_n hwB.out (sB.out.below kW2.out) (rlB.out.below kW2.out) (by omega) hsm)
   replace rlA2 := hide rlA2
   replace wdA := hide wdA
   clear hrA k5
   go_wp2_with fail
   refine hrB.out.mono ?_
   rintro e w6 ⟨raB, rcB, RB', rfl, rlB2, k6, wdB⟩
   have kW3 := hide (grow_step k6 kW2.out)
   have rlA3 := hide (rlA2.out.below k6)
   replace rlB2 := hide rlB2
   replace wdB := hide wdB
   clear hrB k6 rlA2 hne
   have b7 := below_alloc w6 (.cells #[.int .i64 P, .slice none 0 0, .slice none 0 0] 82)
   have m7 := sb_new w6 P ⟨none, 0, 0, none, 0, 0⟩
   have e7 : (w6.alloc (.cells #[.int .i64 P, .slice none 0 0, .slice none 0 0] 82)).heap.size = w6.heap.size + 1 := by simp
   have hnr := hide (newRow_n hsm (w6.alloc (.cells #[.int .i64 P, .slice none 0 0, .slice none 0 0] 82)))
   go_wp2_with fail
   refine hnr.out.mono ?_
   rintro e w8 ⟨rfl, rfl⟩
   clear hnr
   generalize w6.alloc (.cells #[.int .i64 P, .slice none 0 0, .slice none 0 0] 82) = w7 at *
   have b8 := below_alloc w7 (.cells (Uw (List.replicate (wn P) 0)) 117)
   have g8 := rb_new w7 (List.replicate (wn P) 0)
   have m8 := m7.below b8
   have k8 := grow_step b8 b7
   have e8 : (w7.alloc (.cells (Uw (List.replicate (wn P) 0)) 117)).heap.size = w6.heap.size + 2 := by simp [e7]
   generalize w7.alloc (.cells (Uw (List.replicate (wn P) 0)) 117) = w8 at *
   obtain ⟨mm, hmm⟩ : ∃ mm, w6.heap.size = mm := ⟨_, rfl⟩
   obtain ⟨tk, htk⟩ : ∃ tk, w7.heap.size = tk := ⟨_, rfl⟩
   rw [htk] at g8
   rw [hmm] at m8
   have htm : Hid (tk = mm + 1) := hide (by omega)
   have hs8 : Hid (w8.heap.size = mm + 2) := hide (by omega)
   have kW4 := hide (grow_step k8 kW3.out)
   have hmw : Hid (w6.heap.size = mm) := hide hmm
   simp only [hmm, htk]
   replace k8 := hide k8
   replace m8 := hide m8
   replace g8 := hide g8
   clear b7 m7 b8 e7 e8 hmm htk
   have hsv := hide (And.intro ((clA.out.below kW4.out)) ((clB.out.below kW4.out)))
   have hlA := hide clA.out.len
   have hlB := hide clB.out.len
   go_upto_region 8 with (fail)
   refine wp_region_held_drew (S := (fun w' => w'.cell? ⟨bA, 1, none⟩ = some (.slice vA.ca vA.cn vA.cc) ∧ w'.cell? ⟨bB, 1, none⟩ = some (.slice vB.ca vB.cn vB.cc))) (by kernel_rfl) (⟨((sA.out.below kW4.out).below (grow_drew (Below.refl _ _))).c1, ((sB.out.below kW4.out).below (grow_drew (Below.refl _ _))).c1⟩) (fun hHeld => ?_)
   show wpAnyH _ _ _ _ _ 11 _ _ _
   have kW := grow_drew (Below.refl w8.heap.size w8)
   generalize w8.drew = wQ at *
   repeat' first
    | with_reducible exact AllReadyH.nil
    | (
     refine wpAnyH_take (i := 0) (oi := ⟨some 52, _, _, _, _, _⟩) (v := ?_) rfl (by decide +kernel) (by decide +kernel) (by decide +kernel) (fun _ _ _ h => h) (Or.inl ⟨by rfl, ?_⟩) (by assumption) ?_
     rotate_left
     ·intro wq hSw; (try dsimp only at hSw); go_simp; (try with_reducible rfl)
     (try simp only [Act.put, List.setIfInBounds_toArray, List.set_cons_zero, List.set_cons_succ]))
    | (
     refine wpAnyH_take (i := 1) (oi := ⟨some 53, _, _, _, _, _⟩) (v := ?_) rfl (by decide +kernel) (by decide +kernel) (by decide +kernel) (fun _ _ _ h => h) (Or.inl ⟨by rfl, ?_⟩) (by assumption) ?_
     rotate_left
     ·intro wq hSw; (try dsimp only at hSw); go_simp; (try with_reducible rfl)
     (try simp only [Act.put, List.setIfInBounds_toArray, List.set_cons_zero, List.set_cons_succ]))
    | (
     refine wpAnyH_take (i := 2) (oi := ⟨some 54, _, _, _, _, _⟩) (v := ?_) rfl (by decide +kernel) (by decide +kernel) (by decide +kernel) (fun _ _ _ h => h) (Or.inl ⟨by rfl, ?_⟩) (by assumption) ?_
     rotate_left
     ·intro wq hSw; (try dsimp only at hSw); go_simp; (try with_reducible rfl)
     (try simp only [Act.put, List.setIfInBounds_toArray, List.set_cons_zero, List.set_cons_succ]))
    | (
     refine wpAnyH_take (i := 3) (oi := ⟨some 55, _, _, _, _, _⟩) (v := ?_) rfl (by decide +kernel) (by decide +kernel) (by decide +kernel) (fun _ _ _ h => h) (Or.inl ⟨by rfl, ?_⟩) (by assumption) ?_
     rotate_left
     ·intro wq hSw; (try dsimp only at hSw); go_simp; (try with_reducible rfl)
     (try simp only [Act.put, List.setIfInBounds_toArray, List.set_cons_zero, List.set_cons_succ]))
    | (
     refine wpAnyH_take (i := 4) (oi := ⟨some 56, _, _, _, _, _⟩) (v := ?_) rfl (by decide +kernel) (by decide +kernel) (by decide +kernel) (fun _ _ _ h => h) (Or.inl ⟨by rfl, ?_⟩) (by assumption) ?_
     rotate_left
     ·intro wq hSw; (try dsimp only at hSw); go_simp; (try with_reducible rfl)
     (try simp only [Act.put, List.setIfInBounds_toArray, List.set_cons_zero, List.set_cons_succ]))
    | (
     refine wpAnyH_take (i := 5) (oi := ⟨some 57, _, _, _, _, _⟩) (v := ?_) rfl (by decide +kernel) (by decide +kernel) (by decide +kernel) (fun _ _ _ h => h) (Or.inl ⟨by rfl, ?_⟩) (by assumption) ?_
     rotate_left
     ·intro wq hSw; (try dsimp only at hSw); go_simp; (try with_reducible rfl)
     (try simp only [Act.put, List.setIfInBounds_toArray, List.set_cons_zero, List.set_cons_succ]))
    | (
     refine wpAnyH_take (i := 6) (oi := ⟨some 58, _, _, _, _, _⟩) (v := ?_) rfl (by decide +kernel) (by decide +kernel) (by decide +kernel) (fun _ _ _ h => h) (Or.inl ⟨by rfl, ?_⟩) (by assumption) ?_
     rotate_left
     ·intro wq hSw; (try dsimp only at hSw); go_simp; (try with_reducible rfl)
     (try simp only [Act.put, List.setIfInBounds_toArray, List.set_cons_zero, List.set_cons_succ]))
    | (
     refine wpAnyH_take (i := 7) (oi := ⟨some 59, _, _, _, _, _⟩) (v := ?_) rfl (by decide +kernel) (by decide +kernel) (by decide +kernel) (fun _ _ _ h => h) (Or.inl ⟨by rfl, ?_⟩) (by assumption) ?_
     rotate_left
     ·intro wq hSw; (try dsimp only at hSw); go_simp; (try with_reducible rfl)
     (try simp only [Act.put, List.setIfInBounds_toArray, List.set_cons_zero, List.set_cons_succ]))
    | (
     refine wpAnyH_take (i := 9) (oi := ⟨some 61, _, _, _, _, _⟩) (v := ?_) rfl (by decide +kernel) (by decide +kernel) (by decide +kernel) (fun _ _ _ h => h) (Or.inl ⟨by rfl, ?_⟩) (by assumption) ?_
     rotate_left
     ·intro wq hSw; (try dsimp only at hSw); go_simp; (try with_reducible rfl)
     (try simp only [Act.put, List.setIfInBounds_toArray, List.set_cons_zero, List.set_cons_succ]))
    | (
     refine wpAnyH_take (i := 10) (oi := ⟨some 62, _, _, _, _, _⟩) (v := ?_) rfl (by decide +kernel) (by decide +kernel) (by decide +kernel) (fun _ _ _ h => h) (Or.inl ⟨by rfl, ?_⟩) (by assumption) ?_
     rotate_left
     ·intro wq hSw; (try dsimp only at hSw); go_simp; (try with_reducible rfl)
     (try simp only [Act.put, List.setIfInBounds_toArray, List.set_cons_zero, List.set_cons_succ]))
    | (refine wpAnyH_ready (rs := [8]) ?_ ?_ ?_; decide +kernel; simp)
    | (
     first
      | (
       refine AllReadyH.cons (i := 8) (o := ⟨some 60, _, _, _, _, _⟩) rfl (fun K hK => ?_) ?_
       go_simp
       go_at_call 102; refine Calls.mono (stretches_n (hsv.out.1.below kW) (hsv.out.2.below kW) hwA.out.up hwB.out.up (by have := hlA.out; omega) (by have := hlB.out; omega)) ?_; rintro e wS ⟨la, nS, lc, L, rfl, hels, hst, hnS, kS, hfr⟩
       have kW := grow_step kS kW
       try go_wp2_with fail)
     refine hK.out _ _ ?_ ?_
     ·first | with_reducible exact trivial | ((try dsimp only); exact ⟨((sA.out.below kW4.out).below kW).c1, ((sB.out.below kW4.out).below kW).c1⟩)
     clear hK K hHeld; intro hHeld
     (try simp only [Act.put, List.setIfInBounds_toArray, List.set_cons_zero, List.set_cons_succ]))
   refine wpAnyH_done ?_ ?_ _
   ·decide +kernel
   have hnL : Hid (L.length = nS) := hide hels.len
   have hn0 : 1 ≤ nS := by rw [← hels.len]; exact hst.ne
   have hnB : nS ≤ 1073741000 := by have := hlA.out; have := hlB.out; omega
   have kR0 := k8.out.trans (kW.mono k8.out.size)
   rw [hmw.out] at kR0
   have mS := m8.out.below kW
   have gS := g8.out.below kW
   have kWS := hide (grow_step kW kW4.out)
   have hbase : Hid (mm < wS.heap.size ∧ tk < wS.heap.size ∧ mm ≠ tk) := hide (by have := mS.lt; have := gS.lt; have := htm.out; omega)
   have oM : Own wS mm 82 := ⟨_, mS⟩
   have oT0 : Own wS tk 117 := ⟨_, gS⟩
   obtain ⟨R, hRd⟩ : ∃ R : Nat → List Int, R = fun k => zipB op (RA.getD (se L k).i []) (RB'.getD (se L k).j []) (wn P) := ⟨_, rfl⟩
   have hj := jn_join hwA.out hwB.out hop hP1 hsm hdA.out hdB.out (by rw [rlA.out.len]; exact wdA.out) (by rw [rlB.out.len]; exact wdB.out) hst
   rw [← hRd] at hj
   have hJx : Hid (Jx op A B (jn P L R L.length)) := hide ⟨L, RA, RB', hst, by rw [jn_p, rlA.out.len]; exact wdA.out, by rw [jn_p, rlB.out.len]; exact wdB.out, by rw [jn_p, ← hRd]⟩
   have hidx : Hid (∀ k, k < nS → (se L k).i < vA.rn ∧ (se L k).j < vB.rn) := hide fun k hk => by
    have h1 := hst.idx k (by rw [hels.len]; exact hk)
    have h2 := rlA.out.len
    have h3 := rlB.out.len
    have h4 := hwA.out.len
    have h5 := hwB.out.len
    omega
   have hRk : Hid (∀ k, k < nS → R k = zipB op (RA.getD (se L k).i []) (RB'.getD (se L k).j []) (wn P)) := hide fun k _ => by rw [hRd]
   have hrall : Hid (∀ k, ∀ r ∈ (jn P L R k).rs, Rok P r) := hide (by
    rw [hRd]
    refine fun k => jn_rok (fun k => ?_) k
    have hk : (se L k).i < vA.rn ∧ (se L k).j < vB.rn := by
     by_cases hk : k < nS
     ·exact hidx.out k hk
     ·have h0 := hidx.out 0 (by omega)
      have e : se L k = ⟨0, 0, 0⟩ := by
       unfold se
       rw [List.getD_eq_getElem?_getD, List.getElem?_eq_none (by rw [hels.len]; omega)]
       rfl
      rw [e]
      exact ⟨by show 0 < vA.rn; omega, by show 0 < vB.rn; omega⟩
    exact rok_zip hop (wdA.out.rok _ hk.1) (wdB.out.rok _ hk.2))
   replace hst := hide hst
   replace hels := hide hels
   replace hj := hide hj
   replace mS := hide mS
   replace gS := hide gS
   replace kR0 := hide kR0
   replace oM := hide oM
   replace oT0 := hide oT0
   replace hfr := hide hfr
   clear kW hHeld hRd hsv k8 m8 g8 kW4
   go_wp2_with fail
   go_loopw [62] (fun vi wr => ∃ (k : Nat) (xs : List Int), k ≤ nS ∧ vi = .int .i64 k ∧ Mk wr mm wS.heap.size (jn P L R k) ∧ RB wr tk xs ∧ xs.length = wn P ∧ F2 mm tk wS.heap.size wS wr ∧ Below mm w6 wr) (fun vi _ => nS - (intOf vi).toNat)
   case atStart => exact ⟨0, _, Nat.zero_le _, rfl, mk_new mS.out, gS.out, List.length_replicate, F2.refl _ _ _ _, kR0.out⟩
   case round =>
    obtain ⟨k, xs, hk, rfl, hmk, hxs, hxl, hf2, kr⟩ := hrel
    replace hxl := hide hxl
    by_cases hkn : k < nS
    ·obtain ⟨gb, z, hla, hgb, c0, c1, c2, c3, hz⟩ := (hels.out.f2 hf2 oM.out oT0.out).get hkn
     obtain ⟨hi1, hi2⟩ := hidx.out k hkn
     have hRkk := hide (hRk.out k hkn)
     obtain ⟨f, hfe⟩ : ∃ f, f = (se L k).f := ⟨_, rfl⟩
     rw [← hfe] at hz
     have hjs : Hid (layD (jn P L R k) f (R k) = jn P L R (k + 1)) := hide (by rw [hfe]; rfl)
     generalize (se L k).i = iA at *
     generalize (se L k).j = iB at *
     obtain ⟨r1, o1, g1, ha1, hr1, d1, hg1⟩ := rlA3.out.get hi1
     obtain ⟨r2, o2, g2, ha2, hr2, d2, hg2⟩ := rlB2.out.get hi2
     rw [hmw.out] at hr1 hr2
     have hg1l := hg1.lt
     have hg2l := hg2.lt
     rw [hmw.out] at hg1l hg2l
     have hbA : mm < tk := by have := htm.out; omega
     have hbs := hbase.out
     have d1' := (Below.cell (p := ⟨r1, o1 + iA, none⟩) kr hr1).trans d1
     have d2' := (Below.cell (p := ⟨r2, o2 + iB, none⟩) kr hr2).trans d2
     have hg1' : RB wr g1 (RA.getD iA []) := (kr.block g1 hg1l).trans hg1
     have hg2' : RB wr g2 (RB'.getD iB []) := (kr.block g2 hg2l).trans hg2
     have hl1 := hide (wdA.out.rok iA hi1)
     have hl2 := hide (wdB.out.rok iB hi2)
     have hwr : wS.heap.size ≤ wr.heap.size := hf2.size
     have ba := below_alloc wr (.cells #[.bool z.s, .slice z.a z.l z.c, .int .i64 iA, .int .i64 iB] 127)
     have ye : EB (wr.alloc (.cells #[.bool z.s, .slice z.a z.l z.c, .int .i64 iA, .int .i64 iB] 127)) wr.heap.size ⟨z, iA, iB⟩ := heap_alloc_new wr _
     have hmk1 := hide (hmk.below ba)
     have hx1 := hide (hxs.below ba)
     have f2a := hide (hf2.trans (F2.of_below (m := mm) (tk := tk) ba hwr))
     have kra := hide (kr.trans (ba.mono (by omega)))
     have hz1 := hide (hz.below ba)
     have d1a := (Below.cell (p := ⟨r1, o1 + iA, none⟩) ba (show r1 < _ by omega)).trans d1'
     have d2a := (Below.cell (p := ⟨r2, o2 + iB, none⟩) ba (show r2 < _ by omega)).trans d2'
     have hg1a := hide (hg1'.below ba)
     have hg2a := hide (hg2'.below ba)
     have hbt1 : Hid (wr.heap.size ≠ tk ∧ wr.heap.size ≠ mm) := hide (by omega)
     rw [hla, ha1, ha2]
     replace hla := hide hla
     replace ha1 := hide ha1
     replace ha2 := hide ha2
     replace hfe := hide hfe
     have hn1 : r1 ≠ tk := by omega
     have hn2 : r2 ≠ tk := by omega
     have hn3 : g1 ≠ tk := by omega
     have hn4 : g2 ≠ tk := by omega
     have hwz : wS.heap.size ≤ (wr.alloc (.cells #[.bool z.s, .slice z.a z.l z.c, .int .i64 iA, .int .i64 iB] 127)).heap.size := Nat.le_trans hwr ba.size
     clear hmk hxs hf2 kr hz d1 d2 d1' d2' hg1 hg2 hg1' hg2' hgb hwr
     go_upto_region 11 with (fail)
     clear c0 c1 c2 c3
     generalize wr.alloc (.cells #[.bool z.s, .slice z.a z.l z.c, .int .i64 iA, .int .i64 iB] 127) = wa at *
     generalize wr.heap.size = bt at *
     have hcf1 := hcf.out
     replace ba := hide ba
     refine wp_region_held_drew (S := (fun w' => w'.cell? ⟨bt, 2, none⟩ = some (.int .i64 iA) ∧ w'.cell? ⟨bt, 3, none⟩ = some (.int .i64 iB) ∧ w'.cell? ⟨r1, o1 + iA, none⟩ = some (.slice (some ⟨g1, 0, none⟩) (wn P) (wn P)) ∧ w'.cell? ⟨r2, o2 + iB, none⟩ = some (.slice (some ⟨g2, 0, none⟩) (wn P) (wn P)))) (by kernel_rfl) (⟨(ye.below (grow_drew (Below.refl _ _))).c2, (ye.below (grow_drew (Below.refl _ _))).c3, (Below.cell (grow_drew (Below.refl _ _)) (show r1 < _ by omega)).trans d1a, (Below.cell (grow_drew (Below.refl _ _)) (show r2 < _ by omega)).trans d2a⟩) (fun hHeld => ?_)
     show wpAnyH _ _ _ _ _ 13 _ _ _
     have kX := grow_drew (Below.refl wa.heap.size wa)
     have ye := ye.below kX
     have d1a := (Below.cell (p := ⟨r1, o1 + iA, none⟩) kX (show r1 < _ by omega)).trans d1a
     have d2a := (Below.cell (p := ⟨r2, o2 + iB, none⟩) kX (show r2 < _ by omega)).trans d2a
     have xW := hx1.out.below kX
     have g1W := hg1a.out.below kX
     have g2W := hg2a.out.below kX
     have mW := hmk1.out.below kX
     have zW := hz1.out.below kX
     have f2W := f2a.out.trans (F2.of_below (m := mm) (tk := tk) kX hwz)
     have krW := kra.out.trans (kX.mono (by omega))
     have hwz : wS.heap.size ≤ wa.drew.heap.size := hwz
     generalize wa.drew = wQ at *
     repeat' first
      | with_reducible exact AllReadyH.nil
      | (
       refine wpAnyH_take (i := 0) (oi := ⟨some 66, _, _, _, _, _⟩) (v := ?_) rfl (by decide +kernel) (by decide +kernel) (by decide +kernel) (fun _ _ _ h => h) (Or.inl ⟨by rfl, ?_⟩) (by assumption) ?_
       rotate_left
       ·intro wq hSw; (try dsimp only at hSw); go_simp; (try with_reducible rfl)
       (try simp only [Act.put, List.setIfInBounds_toArray, List.set_cons_zero, List.set_cons_succ]))
      | (
       refine wpAnyH_take (i := 1) (oi := ⟨some 67, _, _, _, _, _⟩) (v := ?_) rfl (by decide +kernel) (by decide +kernel) (by decide +kernel) (fun _ _ _ h => h) (Or.inl ⟨by rfl, ?_⟩) (by assumption) ?_
       rotate_left
       ·intro wq hSw; (try dsimp only at hSw); go_simp; (try with_reducible rfl)
       (try simp only [Act.put, List.setIfInBounds_toArray, List.set_cons_zero, List.set_cons_succ]))
      | (
       refine wpAnyH_take (i := 2) (oi := ⟨some 68, _, _, _, _, _⟩) (v := ?_) rfl (by decide +kernel) (by decide +kernel) (by decide +kernel) (fun _ _ _ h => h) (Or.inl ⟨by rfl, ?_⟩) (by assumption) ?_
       rotate_left
       ·intro wq hSw; (try dsimp only at hSw); go_simp; (try with_reducible rfl)
       (try simp only [Act.put, List.setIfInBounds_toArray, List.set_cons_zero, List.set_cons_succ]))
      | (
       refine wpAnyH_take (i := 3) (oi := ⟨some 69, _, _, _, _, _⟩) (v := ?_) rfl (by decide +kernel) (by decide +kernel) (by decide +kernel) (fun _ _ _ h => h) (Or.inl ⟨by rfl, ?_⟩) (by assumption) ?_
       rotate_left
       ·intro wq hSw; (try dsimp only at hSw); go_simp; (try with_reducible rfl)
       (try simp only [Act.put, List.setIfInBounds_toArray, List.set_cons_zero, List.set_cons_succ]))
      | (
       refine wpAnyH_take (i := 4) (oi := ⟨some 70, _, _, _, _, _⟩) (v := ?_) rfl (by decide +kernel) (by decide +kernel) (by decide +kernel) (fun _ _ _ h => h) (Or.inl ⟨by rfl, ?_⟩) (by assumption) ?_
       rotate_left
       ·intro wq hSw; (try dsimp only at hSw); go_simp; (try with_reducible rfl)
       (try simp only [Act.put, List.setIfInBounds_toArray, List.set_cons_zero, List.set_cons_succ]))
      | (
       refine wpAnyH_take (i := 5) (oi := ⟨some 71, _, _, _, _, _⟩) (v := ?_) rfl (by decide +kernel) (by decide +kernel) (by decide +kernel) (fun _ _ _ h => h) (Or.inl ⟨by rfl, ?_⟩) (by assumption) ?_
       rotate_left
       ·intro wq hSw; (try dsimp only at hSw); go_simp; (try with_reducible rfl)
       (try simp only [Act.put, List.setIfInBounds_toArray, List.set_cons_zero, List.set_cons_succ]))
      | (
       refine wpAnyH_take (i := 6) (oi := ⟨some 72, _, _, _, _, _⟩) (v := ?_) rfl (by decide +kernel) (by decide +kernel) (by decide +kernel) (fun _ _ _ h => h) (Or.inl ⟨by rfl, ?_⟩) (by assumption) ?_
       rotate_left
       ·intro wq hSw; (try dsimp only at hSw); go_simp; (try with_reducible rfl)
       (try simp only [Act.put, List.setIfInBounds_toArray, List.set_cons_zero, List.set_cons_succ]))
      | (
       refine wpAnyH_take (i := 7) (oi := ⟨some 73, _, _, _, _, _⟩) (v := ?_) rfl (by decide +kernel) (by decide +kernel) (by decide +kernel) (fun _ _ _ h => h) (Or.inl ⟨by rfl, ?_⟩) (by assumption) ?_
       rotate_left
       ·intro wq hSw; (try dsimp only at hSw); go_simp; (try with_reducible rfl)
       (try simp only [Act.put, List.setIfInBounds_toArray, List.set_cons_zero, List.set_cons_succ]))
      | (
       refine wpAnyH_take (i := 8) (oi := ⟨some 74, _, _, _, _, _⟩) (v := ?_) rfl (by decide +kernel) (by decide +kernel) (by decide +kernel) (fun _ _ _ h => h) (Or.inl ⟨by rfl, ?_⟩) (by assumption) ?_
       rotate_left
       ·intro wq hSw; (try dsimp only at hSw); go_simp; (try with_reducible rfl)
       (try simp only [Act.put, List.setIfInBounds_toArray, List.set_cons_zero, List.set_cons_succ]))
      | (
       refine wpAnyH_take (i := 9) (oi := ⟨some 75, _, _, _, _, _⟩) (v := ?_) rfl (by decide +kernel) (by decide +kernel) (by decide +kernel) (fun _ _ _ h => h) (Or.inl ⟨by rfl, ?_⟩) (by assumption) ?_
       rotate_left
       ·intro wq hSw; (try dsimp only at hSw); go_simp; (try with_reducible rfl)
       (try simp only [Act.put, List.setIfInBounds_toArray, List.set_cons_zero, List.set_cons_succ]))
      | (
       refine wpAnyH_take (i := 10) (oi := ⟨some 76, _, _, _, _, _⟩) (v := ?_) rfl (by decide +kernel) (by decide +kernel) (by decide +kernel) (fun _ _ _ h => h) (Or.inl ⟨by rfl, ?_⟩) (by assumption) ?_
       rotate_left
       ·intro wq hSw; (try dsimp only at hSw); go_simp; (try with_reducible rfl)
       (try simp only [Act.put, List.setIfInBounds_toArray, List.set_cons_zero, List.set_cons_succ]))
      | (
       refine wpAnyH_take (i := 11) (oi := ⟨some 77, _, _, _, _, _⟩) (v := ?_) rfl (by decide +kernel) (by decide +kernel) (by decide +kernel) (fun _ _ _ h => h) (Or.inl ⟨by rfl, ?_⟩) (by assumption) ?_
       rotate_left
       ·intro wq hSw; (try dsimp only at hSw); go_simp; (try with_reducible rfl)
       (try simp only [Act.put, List.setIfInBounds_toArray, List.set_cons_zero, List.set_cons_succ]))
      | (refine wpAnyH_ready (rs := [12]) ?_ ?_ ?_; decide +kernel; simp)
      | (
       first
        | (
         refine AllReadyH.cons (i := 12) (o := ⟨some 78, _, _, _, _, _⟩) rfl (fun K hK => ?_) ?_
         go_simp
         refine Calls.mono (hTk xW g1W g2W hxl.out hl1.out.len hl2.out.len hw65.out hn3 hn4) ?_
         rintro e wT ⟨rfl, xT, oT⟩
         have ye : EB wT bt ⟨z, iA, iB⟩ := (oT.block bt hbt1.out.1).trans ye
         have d1a := (World.cell?_of_block (a := ⟨r1, o1 + iA, none⟩) (oT.block r1 hn1)).trans d1a
         have d2a := (World.cell?_of_block (a := ⟨r2, o2 + iB, none⟩) (oT.block r2 hn2)).trans d2a
         try go_wp2_with fail)
       refine hK.out _ _ ?_ ?_
       ·first | with_reducible exact trivial | ((try dsimp only); exact ⟨EB.c2 ye, EB.c3 ye, d1a, d2a⟩)
       clear hK K hHeld; intro hHeld
       (try simp only [Act.put, List.setIfInBounds_toArray, List.set_cons_zero, List.set_cons_succ]))
     refine wpAnyH_done ?_ ?_ _
     ·decide +kernel
     have mT := mW.only oT xW hbs.2.1
     have zT := zW.only oT (e := 117) ⟨_, xW⟩ (by decide)
     have f2T := f2W.trans (F2.of_only (m := mm) (base := wS.heap.size) oT)
     have krT := krW.trans (oT.below (show mm ≤ tk by omega))
     rw [← hRkk.out] at xT
     have hsT : wS.heap.size ≤ wT.heap.size := by rw [oT.size]; exact hwz
     have hRok : Rok P (R k) := by rw [hRkk.out]; exact rok_zip hop hl1.out hl2.out
     have hln := jn_len (p := P) (L := L) (R := R) k
     have hlay := hide (lay_n (D := jn P L R k) (f := f) mT hbs.1 hsT xT (by rw [jn_p]; exact hRok) (by rw [jn_p]; exact hrall.out k) zT (by rw [jn_p]; exact hsm) ⟨by omega, by omega⟩ hln.2.2.2)
     rw [jn_p] at hlay
     have y0 := EB.c0 ye
     have y1 := EB.c1 ye
     replace xT := hide xT
     replace f2T := hide f2T
     replace krT := hide krT
     clear mW zW f2W krW xW g1W g2W hHeld d1a d2a ye oT mT zT hln hRok hcf1
     go_wp2_with fail
     refine hlay.out.mono ?_
     rintro e wY ⟨rfl, mY, fY⟩
     clear hlay y0 y1
     rw [hjs.out] at mY
     have xY : RB wY tk (R k) := (fY.block tk hbs.2.1 (by omega)).trans xT.out
     have f2Y := f2T.out.trans (F2.of_fm fY)
     have krY : Below mm w6 wY := krT.out.trans ⟨fY.os, fY.tape, fY.output, fY.size, fun b hb => fY.block b (by omega) (by omega)⟩
     have hRlen : (R k).length = wn P := by rw [hRkk.out]; exact zip_len _ _ _ _
     replace mY := hide mY
     replace fY := hide fY
     go_wp2
     go_roundw
     case measure => simp [intOf]; omega
     case rel => exact ⟨k + 1, R k, by omega, by go_num, mY.out, xY, hRlen, f2Y, krY⟩
    ·obtain rfl : k = nS := by omega
     have hps : Hid (PS wr mm (jn P L R k)) := hide (ps_mk hmk (by rw [← hnL.out]; exact hj.out.1))
     have hyo : Hid (Yo w.heap.size wr mm) := hide (yo_mk hmk (by have h6 : w.heap.size ≤ mm := (by rw [← hmw.out]; exact kW3.out.size); have h7 := hbase.out.1; omega))
     have hpp := hide (jn_p P L R k)
     have hln := hide (jn_len (p := P) (L := L) (R := R) k)
     have hmem : Hid (∀ x, mem (jn P L R k) x = ob (mem A x) (mem B x)) := hide (by rw [← hnL.out]; exact hj.out.2)
     have kfin : Hid (Below w.heap.size w wr) := hide (by
      have h6 : w.heap.size ≤ mm := by rw [← hmw.out]; exact kW3.out.size
      exact kW3.out.trans (kr.mono h6))
     clear hmk hxs hf2 kr
     go_wp2
     refine bodyPost_ret (results_tmp2 rfl _ _ _) rfl ⟨kfin.out, .inr ⟨herr.out, mm, jn P L R k, rfl, hps.out, hyo.out, by rw [hpp.out, hP.out], ?_, hmem.out, by rw [← hnL.out]; exact hJx.out⟩⟩
     have := hln.out.2.2.1
     have := hlA.out
     have := hlB.out
     omega
end Pd
end Go.Proofs.YtfannonacamhhaaGreat

namespace Go.Proofs.YtfannonacamhhaaGreat
open Go.RowKit
namespace Pd

set_option maxRecDepth 100000 in
set_option maxHeartbeats 1600000 in
theorem meet_y {w : World} {bA bB : Nat} {A B : PD} (hA : PS w bA A) (hB : PS w bB B) (hfA : A.cs.length ≤ 536869999) (hfB : B.cs.length ≤ 536869999) :
  Calls Tryz.prog 16 #[.pointer (some ⟨bA, 0, none⟩), .pointer (some ⟨bB, 0, none⟩)] w fun e w' => GotY w w' e (jErr (Nat.lcm A.p B.p)) (Nat.lcm A.p B.p) (fun x => mem A x && mem B x) (A.cs.length + B.cs.length) (Jx (bits .and .u64) A B) := by
 have hj := hide (joined_y hA hB hfA hfB tkf_and (fun h ha hb hn hna hnb hn2 n1 n2 => both_n h ha hb hn hna hnb hn2 n1 n2) callf_both)
 go_enter Tryz.func16, Tryz.ntmps16
 go_wp2_with fail
 refine hj.out.mono ?_
 rintro e w1 ⟨k1, ⟨he, rfl⟩ | ⟨he, b, D, rfl, h1, hyo, h2, h3, h4⟩⟩
 ·replace he := hide he
  clear hj
  go_wp2
  exact bodyPost_ret (results_tmp2 rfl _ _ _) rfl ⟨k1, .inl ⟨he.out, rfl⟩⟩
 ·replace he := hide he
  replace h4 := hide h4
  replace h2 := hide h2
  clear hj
  go_wp2
  exact bodyPost_ret (results_tmp2 rfl _ _ _) rfl ⟨k1, .inr ⟨he.out, b, D, rfl, h1, hyo, h2.out, h3, h4.out⟩⟩
set_option maxRecDepth 100000 in
set_option maxHeartbeats 1600000 in
theorem join_y {w : World} {bA bB : Nat} {A B : PD} (hA : PS w bA A) (hB : PS w bB B) (hfA : A.cs.length ≤ 536869999) (hfB : B.cs.length ≤ 536869999) :
  Calls Tryz.prog 17 #[.pointer (some ⟨bA, 0, none⟩), .pointer (some ⟨bB, 0, none⟩)] w fun e w' => GotY w w' e (jErr (Nat.lcm A.p B.p)) (Nat.lcm A.p B.p) (fun x => mem A x || mem B x) (A.cs.length + B.cs.length) (Jx (bits .or .u64) A B) := by
 have hj := hide (joined_y hA hB hfA hfB tkf_or (fun h ha hb hn hna hnb hn2 n1 n2 => either_n h ha hb hn hna hnb hn2 n1 n2) callf_either)
 go_enter Tryz.func17, Tryz.ntmps17
 go_wp2_with fail
 refine hj.out.mono ?_
 rintro e w1 ⟨k1, ⟨he, rfl⟩ | ⟨he, b, D, rfl, h1, hyo, h2, h3, h4⟩⟩
 ·replace he := hide he
  clear hj
  go_wp2
  exact bodyPost_ret (results_tmp2 rfl _ _ _) rfl ⟨k1, .inl ⟨he.out, rfl⟩⟩
 ·replace he := hide he
  replace h4 := hide h4
  replace h2 := hide h2
  clear hj
  go_wp2
  exact bodyPost_ret (results_tmp2 rfl _ _ _) rfl ⟨k1, .inr ⟨he.out, b, D, rfl, h1, hyo, h2.out, h3, h4.out⟩⟩
end Pd
end Go.Proofs.YtfannonacamhhaaGreat
