/-
 Several texts in one: ZJ, ZK8, ZL2, ZN.
-/
import Derived.Test.YtmlephkmbkiofaaGreatDoorR12
import Derived.Test.YtmlephkmbkiofaaGreatDoorR08
import Derived.Test.YtmlephkmbkiofaaGreatDoorR14
import Derived.Deep.RegionHeld3
import Derived.Deep.LoopGhost
namespace Go.Proofs.YtmlephkmbkiofaaGreatDoor
open Go.RowKit

theorem rg_n {a1 a2 : Option Addr} {l1 c1 l2 c2 : Nat} {m n : Int} {w : World} (h1 : Nm w a1 l1 c1 m) (h2 : Nm w a2 l2 c2 n) (hl1 : l1 ≤ 8589934592) (hl2 : l2 ≤ 8589934592) :
  Calls Tryz.prog 32 #[.slice a1 l1 c1, .slice a2 l2 c2] w fun e w' => ∃ ad len cap, e = .returned (.slice ad len cap) ∧ Cn w' ad len cap (gcdI m n) ∧ Below w.heap.size w w' ∧ len ≤ l1 + l2 := by
 obtain ⟨xs, h1, rfl⟩ := h1
 obtain ⟨ys, h2, rfl⟩ := h2
 refine (refgcd_any h1 h2 hl1 hl2).mono ?_
 rintro e w' ⟨ad, len, cap, zs, rfl, ho, hc, hv, hl⟩
 exact ⟨ad, len, cap, rfl, out_cn ho hc hv, ho.1, hl⟩
theorem cn_nil (w : World) : Cn w none 0 0 0 := by
 obtain ⟨n, h1, h2, _⟩ := zn_nil w
 have e : n = 0 := by simpa [sg] using h2.symm
 rwa [e] at h1
theorem foldL_le {l : Nat} {L : Nat → Nat} {k n : Nat} (h : k < n) : foldL l L k + L k ≤ foldL l L n := by
 have key : ∀ d, foldL l L (k + 1) ≤ foldL l L (k + 1 + d) := by
  intro d
  induction d with
  | zero => exact Nat.le_refl _
  | succ d ih => exact Nat.le_trans ih (Nat.le_add_right _ _)
 have := key (n - (k + 1))
 rw [show k + 1 + (n - (k + 1)) = n from by omega] at this
 exact this

set_option maxRecDepth 100000 in
set_option maxHeartbeats 1600000 in
theorem rgcd_list {w : World} {b off n cap : Nat} {S : Nat → Bool} {A : Nat → Option Addr} {L C : Nat → Nat} {M : Nat → Int} (hl : ZL w b off n S A L C M) (hb : foldL 0 L n ≤ 4294967296) (hn : n ≤ 1099511627776) :
  Calls Tryz.prog 11 #[.slice (some ⟨b, off, none⟩) n cap] w fun e w' => ∃ s' ad len cap, e = .returned (.agg #[.bool s', .slice ad len cap]) ∧ Zn w' s' ad len cap (fold gcdI 0 M n) ∧ Below w.heap.size w w' ∧ len ≤ foldL 0 L n := by
 go_enter Tryz.func11, Tryz.ntmps11
 go_wp2_with fail
 have y := zb_new w false none 0 0
 have b0 := below_alloc w (.cells #[.bool false, .slice none 0 0] 26)
 replace hl := hl.below b0
 generalize w.alloc (.cells #[.bool false, .slice none 0 0] 26) = wb at *
 generalize hp : w.heap.size = r at *
 replace hp := hide hp
 go_loopw [3, 4] (fun t i wr => ∃ (k : Nat) (at' : Option Addr) (lt ct : Nat), k ≤ n ∧ i = .int .i64 k ∧ t = .slice at' lt ct ∧ Cn wr at' lt ct (fold gcdI 0 M k) ∧ lt ≤ foldL 0 L k ∧ Below wb.heap.size wb wr) (fun _ i _ => n - (intOf i).toNat)
 case atStart => exact ⟨0, none, 0, 0, Nat.zero_le _, rfl, rfl, cn_nil _, Nat.le_refl _, Below.refl _ _⟩
 case round =>
  obtain ⟨k, at', lt, ct, hk, rfl, rfl, hct, hlt, kr⟩ := hrel
  by_cases hkN : k < n
  ·have q := hl.below kr
   have e1 := q.c1 k hkN
   have hnm := q.nm k hkN
   have hle := hl.le k hkN
   have hmk := foldL_le (l := 0) (L := L) hkN
   have hlb := q.lt
   go_wp2_with fail
   refine (rg_n hct.nm hnm (by omega) (by omega)).mono ?_
   rintro e w2 ⟨ad, len, cap', rfl, hc2, k2, hl2⟩
   go_wp2_with fail
   exact ⟨⟨k + 1, ad, len, cap', by omega, by go_num, rfl, hc2, by show len ≤ foldL 0 L k + L k; omega, grow_step k2 kr⟩, by simp [intOf]; omega⟩
  ·obtain rfl : k = n := by omega
   go_wp2_with fail
   refine (rnorm_n ⟨_, hct.nm, rfl⟩ (by omega)).mono ?_
   rintro e w' ⟨s', ad, len, cap', rfl, hz, hg, hl'⟩
   have y' : ZB w' r false none 0 0 := ZB.below y (grow_step hg kr)
   have y0 := y'.c0
   have y1 := y'.c1
   have y2 := y'.f 0
   have y3 := y'.f 1
   have hB : Below r w w' := b0.trans ((grow_step hg kr).mono (Nat.le_of_lt y.lt))
   go_wp2
   refine bodyPost_ret (results_cell_row rfl _ _ r 26 _ (0, 0) _ rfl (zb_fin y' s' ad len cap') Tryz.underlying26 rfl (by kernel_rfl)) rfl ?_
   exact ⟨s', ad, len, cap', by simp, zb_zn y' hz _ _ _ _, hp.out.symm ▸ (hB.setCell (Nat.le_refl _) _).setCell (Nat.le_refl _) _, by omega⟩

set_option maxRecDepth 100000 in
set_option maxHeartbeats 1600000 in
theorem rfd_all {s1 s2 : Bool} {a1 a2 : Option Addr} {l1 c1 l2 c2 : Nat} {z1 z2 : Int} {w : World} (h1 : Zm w s1 a1 l1 c1 z1) (h2 : Zm w s2 a2 l2 c2 z2) (hl1 : l1 ≤ 4294967296) (hl2 : l2 ≤ 4294967296) (hz : z2 ≠ 0) :
  Calls Tryz.prog 36 #[.agg #[.bool s1, .slice a1 l1 c1], .agg #[.bool s2, .slice a2 l2 c2]] w fun e w' => ∃ sr ar lr cr qv rv, e = .returned (.agg #[.bool sr, .slice ar lr cr]) ∧ Zn w' sr ar lr cr qv ∧ FD z1 z2 qv rv ∧ Below w.heap.size w w' ∧ lr ≤ l1 + 3 := by
 go_enter Tryz.func36, Tryz.ntmps36
 go_wp2_with fail
 have y := zb_new ((w.alloc (.cells #[.bool s1, .slice a1 l1 c1] 26)).alloc (.cells #[.bool s2, .slice a2 l2 c2] 26)) false none 0 0
 rw [show ((w.alloc (.cells #[.bool s1, .slice a1 l1 c1] 26)).alloc (.cells #[.bool s2, .slice a2 l2 c2] 26)).heap.size = w.heap.size + 1 + 1 from by simp] at y
 have b0 : Below w.heap.size w (((w.alloc (.cells #[.bool s1, .slice a1 l1 c1] 26)).alloc (.cells #[.bool s2, .slice a2 l2 c2] 26)).alloc (.cells #[.bool false, .slice none 0 0] 26)) := below_alloc' (below_alloc' (below_alloc _ _) _) _
 generalize ((w.alloc (.cells #[.bool s1, .slice a1 l1 c1] 26)).alloc (.cells #[.bool s2, .slice a2 l2 c2] 26)).alloc (.cells #[.bool false, .slice none 0 0] 26) = wb at *
 generalize hr : w.heap.size + 1 + 1 = r at *
 have hwr : w.heap.size ≤ r := by omega
 refine (rdivmod_n (h1.below b0) (h2.below b0) hl1 hl2 hz).mono ?_
 rintro e w1 ⟨sq, aq, lq, cq, sr, ar, lr, cr, qv, rv, rfl, hzq, _, hfd, k1, hl, _⟩
 have b1 : Below w1.heap.size w1 ((w1.alloc (.cells #[.bool sq, .slice aq lq cq] 26)).alloc (.cells #[.bool sr, .slice ar lr cr] 26)) := below_alloc' (below_alloc _ _) _
 have y2 := (y.below k1).below b1
 have t2 := (zb_new w1 sq aq lq cq).below (below_alloc _ (.cells #[.bool sr, .slice ar lr cr] 26))
 have y0 := y2.c0
 have y1 := y2.c1
 have f0 := y2.f 0
 have f1 := y2.f 1
 have t0 := t2.c0
 have t1 := t2.c1
 have zq2 := hzq.below b1
 have b2 : Below w.heap.size w ((w1.alloc (.cells #[.bool sq, .slice aq lq cq] 26)).alloc (.cells #[.bool sr, .slice ar lr cr] 26)) := (b0.trans (k1.mono b0.size)).trans (b1.mono (Nat.le_trans b0.size k1.size))
 clear y b0 k1 hzq t2 b1
 go_wp2_with fail
 refine bodyPost_ret (results_cell_row rfl _ _ r 26 _ (0, 0) _ rfl (zb_fin y2 sq aq lq cq) Tryz.underlying26 rfl (by kernel_rfl)) rfl ?_
 exact ⟨sq, aq, lq, cq, qv, rv, by simp, zb_zn y2 zq2 _ _ _ _, hfd, (b2.setCell hwr _).setCell hwr _, hl⟩
end Go.Proofs.YtmlephkmbkiofaaGreatDoor

namespace Go.Proofs.YtmlephkmbkiofaaGreatDoor
open Go.RowKit

def isRegion8 : Code → Bool
 | .region m _ _ => m == 8
 | _ => false
def region8Of : Code → Option Code
 | .seq a b => match region8Of a with
  | some c => some c
  | none => region8Of b
 | .cond _ a b => match region8Of a with
  | some c => some c
  | none => region8Of b
 | .block _ c => region8Of c
 | .scope c => region8Of c
 | .loop c => region8Of c
 | c => if isRegion8 c then some c else none
def rlReg8At (f : Func) : Code := (f.body.bind region8Of).getD .skip
theorem rl_keep {wr w' : World} {pm b off k : Nat} {s : Bool} {a : Option Addr} {l c : Nat} (hb : b < pm) (e0 : wr.cell? ⟨b, off + k * 2, none⟩ = some (.bool s)) (e1 : wr.cell? ⟨b, off + k * 2 + 1, none⟩ = some (.slice a l c)) (h : Below pm wr w') :
  w'.cell? ⟨b, off + k * 2, none⟩ = some (.bool s) ∧ w'.cell? ⟨b, off + k * 2 + 1, none⟩ = some (.slice a l c) ∧ Below pm wr w' :=
 ⟨(h.cell (p := ⟨b, off + k * 2, none⟩) hb).trans e0, (h.cell (p := ⟨b, off + k * 2 + 1, none⟩) hb).trans e1, h⟩

theorem pos_nm {w : World} {s : Bool} {a : Option Addr} {l c : Nat} {g : Int} (h : Zn w s a l c g) (hg : 0 < g) : Nm w a l c g := by
 obtain ⟨n, h1, h2, _⟩ := h
 have h0 := h1.nm.nonneg
 cases s
 ·rw [h2]; exact h1.nm
 ·simp [sg] at h2; omega
theorem gcd_zero_l {x y : Int} (hx : 0 ≤ x) (hy : 0 ≤ y) (h : gcdI x y = 0) : x = 0 := by
 have e1 : x = (x.natAbs : Int) := by omega
 have e2 : y = (y.natAbs : Int) := by omega
 rw [e1, e2] at h
 exact (gcd_none h).1
theorem fold2 {g m : Int} (hg : 0 ≤ g) : fold gcdI 0 (fun i => if i = 0 then g else m) 2 = gcdI g m := by simp [fold, gcdI_zero_left hg]
theorem lcm_step {g m q r m1 : Int} (hg : 0 < g) (hma : (m.natAbs : Int) = m1) (h : FD g (gcdI g m1) q r) : lcmI g m1 = ((q * m).natAbs : Int) := by
 have eg : (g.natAbs : Int) = g := by omega
 have hc := common_all g m
 rw [eg, hma] at hc
 have hG : gcdI g m1 ≠ 0 := fun e => by have := gcd_zero_l (by omega) (by omega) e; omega
 have hG0 : 0 < gcdI g m1 := by
  have : 0 ≤ gcdI g m1 := by unfold gcdI; exact Int.natCast_nonneg _
  omega
 have hd : gcdI g m1 ∣ g := by
  have := gcd_dvd1 g m
  rwa [eg, hma] at this
 obtain ⟨_, e⟩ := fd_dvd h hG0 hd
 generalize gcdI g m1 = G at *
 have hq : 0 < q := by
  rcases Int.lt_or_le 0 q with h | h
  ·exact h
  ·have := Int.mul_nonpos_of_nonpos_of_nonneg h (Int.le_of_lt hG0)
   omega
 rw [Int.natAbs_mul, Int.natCast_mul, hma] at hc ⊢
 rw [eg] at hc
 have eq : (q.natAbs : Int) = q := by omega
 rw [eq]
 have hc2 : G * lcmI g m1 = G * (q * m1) := by
  rw [hc]
  conv => lhs; rw [e]
  rw [Int.mul_comm q G, Int.mul_assoc]
 exact Int.eq_of_mul_eq_mul_left (Int.ne_of_gt hG0) hc2

set_option maxRecDepth 100000 in
set_option maxHeartbeats 3200000 in
theorem rl_reg8 {s s1 : Bool} {a a1 : Option Addr} {b off n cap k l c l1 c1 pm : Nat} {g m : Int} {wr : World} {u1 u2 u5 u6 u7 u8 u9 u10 u11 u12 u13 u14 u15 u16 u17 u18 u19 u20 u21 u22 u23 u24 u25 u26 u27 u28 u29 u30 u31 u32 u33 u34 u35 u36 : Value} (hb : b < pm) (e0 : wr.cell? ⟨b, off + k * 2, none⟩ = some (.bool s)) (e1 : wr.cell? ⟨b, off + k * 2 + 1, none⟩ = some (.slice a l c)) (t : ZB wr pm s1 a1 l1 c1) (zg : Zn wr s1 a1 l1 c1 g) (zm : Zm wr s a l c m) (hl : l ≤ 4294967296) (hl1 : l1 ≤ 4294967296) (hll : l + l1 ≤ 1073741824) (hkn : k < n) (hg : 0 < g) (hk4 : k ≤ 1099511627776) :
  (rlReg8At Tryz.f12).wp Tryz.prog (fun e a' W' => e = .normal ∧ (∃ v21 v22 v23 v24 v25 v26 v27 v28 v29 v30 v31 v32 v33 v34 v35 : Value, a' = ⟨#[.slice (some ⟨b, off, none⟩) n cap, u1, u2, .pointer (some ⟨pm, 0, none⟩), .int .i64 k, u5, u6, u7, u8, u9, u10, u11, u12, u13, u14, u15, u16, u17, u18, u19, u20, v21, v22, v23, v24, v25, v26, v27, v28, v29, v30, v31, v32, v33, v34, v35, u36], []⟩) ∧ (∃ s' a2 l2 c2, ZB W' pm s' a2 l2 c2 ∧ Zn W' s' a2 l2 c2 (lcmI g m.natAbs) ∧ l2 ≤ l1 + 3 + l) ∧ Below pm wr W') ⟨#[.slice (some ⟨b, off, none⟩) n cap, u1, u2, .pointer (some ⟨pm, 0, none⟩), .int .i64 k, u5, u6, u7, u8, u9, u10, u11, u12, u13, u14, u15, u16, u17, u18, u19, u20, u21, u22, u23, u24, u25, u26, u27, u28, u29, u30, u31, u32, u33, u34, u35, u36], []⟩ wr := by
 obtain ⟨m1, hm1, e3⟩ := zm
 have zm : Zm wr s a l c m := ⟨m1, hm1, e3⟩
 have hg1 : Nm wr a1 l1 c1 g := pos_nm zg hg
 have hma : (m.natAbs : Int) = m1 := by rw [e3]; exact (sg_natAbs hm1.nonneg).symm
 rw [hma]
 have hG : gcdI g m1 ≠ 0 := fun h => by have := (gcd_zero_l hg1.nonneg hm1.nonneg h); omega
 conv in rlReg8At _ => whnf
 have hkb : (k : Int) < n := by omega
 have hk0 : (0 : Int) ≤ k := by omega
 have hpl := t.lt
 have q0 := t.c0
 have q1 := t.c1
 refine wp_region_held_drew (S := (fun w' => w'.cell? ⟨b, off + k * 2, none⟩ = some (.bool s) ∧ w'.cell? ⟨b, off + k * 2 + 1, none⟩ = some (.slice a l c) ∧ Below pm wr w')) (by kernel_rfl) (by (refine rl_keep hb e0 e1 ?_; first | (refine Below.mono ?_ (Nat.le_of_lt hpl); focus ((repeat' (first | with_reducible exact Below.refl _ _ | with_reducible assumption | with_reducible refine grow_step (by with_reducible assumption) ?_ | with_reducible refine grow_drew ?_ | with_reducible refine grow_alloc ?_ _ | with_reducible refine grow_drewN ?_ _)); done)) | (refine Below.setCell (Below.setCell (Below.mono ?_ (Nat.le_of_lt hpl)) (Nat.le_refl _) _) (Nat.le_refl _) _; focus ((repeat' (first | with_reducible exact Below.refl _ _ | with_reducible assumption | with_reducible refine grow_step (by with_reducible assumption) ?_ | with_reducible refine grow_drew ?_ | with_reducible refine grow_alloc ?_ _ | with_reducible refine grow_drewN ?_ _)); done)))) (fun hHeld => ?_)
 show wpAnyH _ _ _ _ _ 16 _ _ _
 refine wpAnyH_take (i := 2) (oi := ⟨some 23, _, _, _, _, _⟩) (v := ?_) rfl (by kernel_rfl) (by kernel_rfl) (by kernel_rfl) (fun _ _ _ h => absurd h.1 (by simp)) (Or.inl ⟨by rfl, ?_⟩) (by assumption) ?_
 rotate_left
 ·intro wq hSw; (try dsimp only at hSw); go_simp; (try with_reducible rfl)
 (try simp only [Act.put, List.setIfInBounds_toArray, List.set_cons_zero, List.set_cons_succ])
 refine wpAnyH_take (i := 3) (oi := ⟨some 24, _, _, _, _, _⟩) (v := ?_) rfl (by kernel_rfl) (by kernel_rfl) (by kernel_rfl) (fun _ _ _ h => absurd h.1 (by simp)) (Or.inl ⟨by rfl, ?_⟩) (by assumption) ?_
 rotate_left
 ·intro wq hSw; (try dsimp only at hSw); go_simp; (try with_reducible rfl)
 (try simp only [Act.put, List.setIfInBounds_toArray, List.set_cons_zero, List.set_cons_succ])
 refine wpAnyH_take (i := 4) (oi := ⟨some 25, _, _, _, _, _⟩) (v := ?_) rfl (by kernel_rfl) (by kernel_rfl) (by kernel_rfl) (fun _ _ _ h => absurd h.1 (by simp)) (Or.inl ⟨by rfl, ?_⟩) (by assumption) ?_
 rotate_left
 ·intro wq hSw; (try dsimp only at hSw); go_simp; (try with_reducible rfl)
 (try simp only [Act.put, List.setIfInBounds_toArray, List.set_cons_zero, List.set_cons_succ])
 refine wpAnyH_take (i := 5) (oi := ⟨some 26, _, _, _, _, _⟩) (v := ?_) rfl (by kernel_rfl) (by kernel_rfl) (by kernel_rfl) (fun _ _ _ h => absurd h.1 (by simp)) (Or.inl ⟨by rfl, ?_⟩) (by assumption) ?_
 rotate_left
 ·intro wq hSw; (try dsimp only at hSw); go_simp; (try with_reducible rfl)
 (try simp only [Act.put, List.setIfInBounds_toArray, List.set_cons_zero, List.set_cons_succ])
 refine wpAnyH_take (i := 9) (oi := ⟨some 30, _, _, _, _, _⟩) (v := ?_) rfl (by kernel_rfl) (by kernel_rfl) (by kernel_rfl) (fun _ _ _ h => absurd h.1 (by simp)) (Or.inl ⟨by rfl, ?_⟩) (by assumption) ?_
 rotate_left
 ·intro wq hSw; (try dsimp only at hSw); go_simp; (try with_reducible rfl)
 (try simp only [Act.put, List.setIfInBounds_toArray, List.set_cons_zero, List.set_cons_succ])
 refine wpAnyH_take (i := 10) (oi := ⟨some 31, _, _, _, _, _⟩) (v := ?_) rfl (by kernel_rfl) (by kernel_rfl) (by kernel_rfl) (fun _ _ _ h => absurd h.1 (by simp)) (Or.inl ⟨by rfl, ?_⟩) (by assumption) ?_
 rotate_left
 ·intro wq hSw; (try dsimp only at hSw); go_simp; (try with_reducible rfl)
 (try simp only [Act.put, List.setIfInBounds_toArray, List.set_cons_zero, List.set_cons_succ])
 refine wpAnyH_take (i := 11) (oi := ⟨some 32, _, _, _, _, _⟩) (v := ?_) rfl (by kernel_rfl) (by kernel_rfl) (by kernel_rfl) (fun _ _ _ h => absurd h.1 (by simp)) (Or.inl ⟨by rfl, ?_⟩) (by assumption) ?_
 rotate_left
 ·intro wq hSw; (try dsimp only at hSw); go_simp; (try with_reducible rfl)
 (try simp only [Act.put, List.setIfInBounds_toArray, List.set_cons_zero, List.set_cons_succ])
 refine wpAnyH_take (i := 12) (oi := ⟨some 33, _, _, _, _, _⟩) (v := ?_) rfl (by kernel_rfl) (by kernel_rfl) (by kernel_rfl) (fun _ _ _ h => absurd h.1 (by simp)) (Or.inl ⟨by rfl, ?_⟩) (by assumption) ?_
 rotate_left
 ·intro wq hSw; (try dsimp only at hSw); go_simp; (try with_reducible rfl)
 (try simp only [Act.put, List.setIfInBounds_toArray, List.set_cons_zero, List.set_cons_succ])
 refine wpAnyH_ready (rs := [0, 1]) (by kernel_rfl) (by simp) ?_
 refine AllReadyH.cons (o := ⟨some 21, _, _, _, _, _⟩) rfl (fun K hK => ?_) ?_
 ·go_simp
  refine hK.out _ _ ?_ ?_
  ·(try dsimp only); (refine rl_keep hb e0 e1 ?_; first | (refine Below.mono ?_ (Nat.le_of_lt hpl); focus ((repeat' (first | with_reducible exact Below.refl _ _ | with_reducible assumption | with_reducible refine grow_step (by with_reducible assumption) ?_ | with_reducible refine grow_drew ?_ | with_reducible refine grow_alloc ?_ _ | with_reducible refine grow_drewN ?_ _)); done)) | (refine Below.setCell (Below.setCell (Below.mono ?_ (Nat.le_of_lt hpl)) (Nat.le_refl _) _) (Nat.le_refl _) _; focus ((repeat' (first | with_reducible exact Below.refl _ _ | with_reducible assumption | with_reducible refine grow_step (by with_reducible assumption) ?_ | with_reducible refine grow_drew ?_ | with_reducible refine grow_alloc ?_ _ | with_reducible refine grow_drewN ?_ _)); done)))
  clear hK K hHeld; intro hHeld
  (try simp only [Act.put, List.setIfInBounds_toArray, List.set_cons_zero, List.set_cons_succ])
  refine wpAnyH_ready (rs := [1]) (by kernel_rfl) (by simp) ?_
  refine AllReadyH.cons (o := ⟨some 22, _, _, _, _, _⟩) rfl (fun K hK => ?_) ?_
  ·go_simp
   refine hK.out _ _ ?_ ?_
   ·(try dsimp only); (refine rl_keep hb e0 e1 ?_; first | (refine Below.mono ?_ (Nat.le_of_lt hpl); focus ((repeat' (first | with_reducible exact Below.refl _ _ | with_reducible assumption | with_reducible refine grow_step (by with_reducible assumption) ?_ | with_reducible refine grow_drew ?_ | with_reducible refine grow_alloc ?_ _ | with_reducible refine grow_drewN ?_ _)); done)) | (refine Below.setCell (Below.setCell (Below.mono ?_ (Nat.le_of_lt hpl)) (Nat.le_refl _) _) (Nat.le_refl _) _; focus ((repeat' (first | with_reducible exact Below.refl _ _ | with_reducible assumption | with_reducible refine grow_step (by with_reducible assumption) ?_ | with_reducible refine grow_drew ?_ | with_reducible refine grow_alloc ?_ _ | with_reducible refine grow_drewN ?_ _)); done)))
   clear hK K hHeld; intro hHeld
   (try simp only [Act.put, List.setIfInBounds_toArray, List.set_cons_zero, List.set_cons_succ])
   refine wpAnyH_ready (rs := [6]) (by kernel_rfl) (by simp) ?_
   refine AllReadyH.cons (o := ⟨some 27, _, _, _, _, _⟩) rfl (fun K hK => ?_) ?_
   ·go_simp
    refine hK.out _ _ ?_ ?_
    ·(try dsimp only); (refine rl_keep hb e0 e1 ?_; first | (refine Below.mono ?_ (Nat.le_of_lt hpl); focus ((repeat' (first | with_reducible exact Below.refl _ _ | with_reducible assumption | with_reducible refine grow_step (by with_reducible assumption) ?_ | with_reducible refine grow_drew ?_ | with_reducible refine grow_alloc ?_ _ | with_reducible refine grow_drewN ?_ _)); done)) | (refine Below.setCell (Below.setCell (Below.mono ?_ (Nat.le_of_lt hpl)) (Nat.le_refl _) _) (Nat.le_refl _) _; focus ((repeat' (first | with_reducible exact Below.refl _ _ | with_reducible assumption | with_reducible refine grow_step (by with_reducible assumption) ?_ | with_reducible refine grow_drew ?_ | with_reducible refine grow_alloc ?_ _ | with_reducible refine grow_drewN ?_ _)); done)))
    clear hK K hHeld; intro hHeld
    (try simp only [Act.put, List.setIfInBounds_toArray, List.set_cons_zero, List.set_cons_succ])
    refine wpAnyH_ready (rs := [7]) (by kernel_rfl) (by simp) ?_
    refine AllReadyH.cons (o := ⟨some 28, _, _, _, _, _⟩) rfl (fun K hK => ?_) ?_
    ·go_simp
     go_at_call 11; refine (rgcd_list ((zl_two (s1 := s1) (s2 := s) hg1 hm1 hl1 hl).below (Below.refl _ _).drew) (by simp [foldL] <;> omega) (by decide)).mono ?_; rintro e w2 ⟨sg2, ag, lg, cg, rfl, zgc, kg, hlg⟩; replace zgc := zgc; rw [fold2 hg1.nonneg] at zgc; have k2 : Below wr.heap.size wr w2 := (by (repeat' (first | with_reducible exact Below.refl _ _ | with_reducible assumption | with_reducible refine grow_step (by with_reducible assumption) ?_ | with_reducible refine grow_drew ?_ | with_reducible refine grow_alloc ?_ _ | with_reducible refine grow_drewN ?_ _))); have hlg2 : lg ≤ l1 + l := (by simpa [foldL] using hlg); have qa := (t.below k2).c0; have qb := (t.below k2).c1
     (try go_wp2_with fail)
     refine hK.out _ _ ?_ ?_
     ·(try dsimp only); (refine rl_keep hb e0 e1 ?_; first | (refine Below.mono ?_ (Nat.le_of_lt hpl); focus ((repeat' (first | with_reducible exact Below.refl _ _ | with_reducible assumption | with_reducible refine grow_step (by with_reducible assumption) ?_ | with_reducible refine grow_drew ?_ | with_reducible refine grow_alloc ?_ _ | with_reducible refine grow_drewN ?_ _)); done)) | (refine Below.setCell (Below.setCell (Below.mono ?_ (Nat.le_of_lt hpl)) (Nat.le_refl _) _) (Nat.le_refl _) _; focus ((repeat' (first | with_reducible exact Below.refl _ _ | with_reducible assumption | with_reducible refine grow_step (by with_reducible assumption) ?_ | with_reducible refine grow_drew ?_ | with_reducible refine grow_alloc ?_ _ | with_reducible refine grow_drewN ?_ _)); done)))
     clear hK K hHeld; intro hHeld
     (try simp only [Act.put, List.setIfInBounds_toArray, List.set_cons_zero, List.set_cons_succ])
     refine wpAnyH_ready (rs := [8]) (by kernel_rfl) (by simp) ?_
     refine AllReadyH.cons (o := ⟨some 29, _, _, _, _, _⟩) rfl (fun K hK => ?_) ?_
     ·go_simp
      go_at_call 36; refine (rfd_all (zg.below (by (repeat' (first | with_reducible exact Below.refl _ _ | with_reducible assumption | with_reducible refine grow_step (by with_reducible assumption) ?_ | with_reducible refine grow_drew ?_ | with_reducible refine grow_alloc ?_ _ | with_reducible refine grow_drewN ?_ _)))).zm (zgc.below (by (repeat' (first | with_reducible exact Below.refl _ _ | with_reducible assumption | with_reducible refine grow_step (by with_reducible assumption) ?_ | with_reducible refine grow_drew ?_ | with_reducible refine grow_alloc ?_ _ | with_reducible refine grow_drewN ?_ _)))).zm (by omega) (by omega) hG).mono ?_; rintro e w3 ⟨sf, af, lf, cf, qv, rv, rfl, zf, hfd, kf, hlf⟩
      (try go_wp2_with fail)
      refine hK.out _ _ ?_ ?_
      ·(try dsimp only); (refine rl_keep hb e0 e1 ?_; first | (refine Below.mono ?_ (Nat.le_of_lt hpl); focus ((repeat' (first | with_reducible exact Below.refl _ _ | with_reducible assumption | with_reducible refine grow_step (by with_reducible assumption) ?_ | with_reducible refine grow_drew ?_ | with_reducible refine grow_alloc ?_ _ | with_reducible refine grow_drewN ?_ _)); done)) | (refine Below.setCell (Below.setCell (Below.mono ?_ (Nat.le_of_lt hpl)) (Nat.le_refl _) _) (Nat.le_refl _) _; focus ((repeat' (first | with_reducible exact Below.refl _ _ | with_reducible assumption | with_reducible refine grow_step (by with_reducible assumption) ?_ | with_reducible refine grow_drew ?_ | with_reducible refine grow_alloc ?_ _ | with_reducible refine grow_drewN ?_ _)); done)))
      clear hK K hHeld; intro hHeld
      (try simp only [Act.put, List.setIfInBounds_toArray, List.set_cons_zero, List.set_cons_succ])
      refine wpAnyH_ready (rs := [13]) (by kernel_rfl) (by simp) ?_
      refine AllReadyH.cons (o := ⟨some 34, _, _, _, _, _⟩) rfl (fun K hK => ?_) ?_
      ·go_simp
       go_at_call 35; refine (rmul2_n zf.zm (zm.below (by (repeat' (first | with_reducible exact Below.refl _ _ | with_reducible assumption | with_reducible refine grow_step (by with_reducible assumption) ?_ | with_reducible refine grow_drew ?_ | with_reducible refine grow_alloc ?_ _ | with_reducible refine grow_drewN ?_ _)))) (by omega) (by omega)).mono ?_; rintro e w4 ⟨su, au, lu, cu, rfl, zu, ku, hlu⟩
       (try go_wp2_with fail)
       refine hK.out _ _ ?_ ?_
       ·(try dsimp only); (refine rl_keep hb e0 e1 ?_; first | (refine Below.mono ?_ (Nat.le_of_lt hpl); focus ((repeat' (first | with_reducible exact Below.refl _ _ | with_reducible assumption | with_reducible refine grow_step (by with_reducible assumption) ?_ | with_reducible refine grow_drew ?_ | with_reducible refine grow_alloc ?_ _ | with_reducible refine grow_drewN ?_ _)); done)) | (refine Below.setCell (Below.setCell (Below.mono ?_ (Nat.le_of_lt hpl)) (Nat.le_refl _) _) (Nat.le_refl _) _; focus ((repeat' (first | with_reducible exact Below.refl _ _ | with_reducible assumption | with_reducible refine grow_step (by with_reducible assumption) ?_ | with_reducible refine grow_drew ?_ | with_reducible refine grow_alloc ?_ _ | with_reducible refine grow_drewN ?_ _)); done)))
       clear hK K hHeld; intro hHeld
       (try simp only [Act.put, List.setIfInBounds_toArray, List.set_cons_zero, List.set_cons_succ])
       refine wpAnyH_ready (rs := [14]) (by kernel_rfl) (by simp) ?_
       refine AllReadyH.cons (o := ⟨some 35, _, _, _, _, _⟩) rfl (fun K hK => ?_) ?_
       ·go_simp
        go_at_call 34; refine (rabs_n zu.zm (by omega)).mono ?_; rintro e w5 ⟨sv, av, lv, cv, rfl, zv, kv, hlv⟩; have k5 : Below wr.heap.size wr w5 := (by (repeat' (first | with_reducible exact Below.refl _ _ | with_reducible assumption | with_reducible refine grow_step (by with_reducible assumption) ?_ | with_reducible refine grow_drew ?_ | with_reducible refine grow_alloc ?_ _ | with_reducible refine grow_drewN ?_ _))); have t5 := t.below k5; have z0 := t5.c0; have z1 := t5.c1; have z2 := t5.f 0; have z3 := t5.f 1
        (try go_wp2_with fail)
        refine hK.out _ _ ?_ ?_
        ·(try dsimp only); (refine rl_keep hb e0 e1 ?_; first | (refine Below.mono ?_ (Nat.le_of_lt hpl); focus ((repeat' (first | with_reducible exact Below.refl _ _ | with_reducible assumption | with_reducible refine grow_step (by with_reducible assumption) ?_ | with_reducible refine grow_drew ?_ | with_reducible refine grow_alloc ?_ _ | with_reducible refine grow_drewN ?_ _)); done)) | (refine Below.setCell (Below.setCell (Below.mono ?_ (Nat.le_of_lt hpl)) (Nat.le_refl _) _) (Nat.le_refl _) _; focus ((repeat' (first | with_reducible exact Below.refl _ _ | with_reducible assumption | with_reducible refine grow_step (by with_reducible assumption) ?_ | with_reducible refine grow_drew ?_ | with_reducible refine grow_alloc ?_ _ | with_reducible refine grow_drewN ?_ _)); done)))
        clear hK K hHeld; intro hHeld
        (try simp only [Act.put, List.setIfInBounds_toArray, List.set_cons_zero, List.set_cons_succ])
        refine wpAnyH_ready (rs := [15]) (by kernel_rfl) (by simp) ?_
        refine AllReadyH.cons (o := ⟨none, _, _, _, _, _⟩) rfl (fun K hK => ?_) ?_
        ·go_simp
         refine hK.out _ _ ?_ ?_
         ·(try dsimp only); (refine rl_keep hb e0 e1 ?_; first | (refine Below.mono ?_ (Nat.le_of_lt hpl); focus ((repeat' (first | with_reducible exact Below.refl _ _ | with_reducible assumption | with_reducible refine grow_step (by with_reducible assumption) ?_ | with_reducible refine grow_drew ?_ | with_reducible refine grow_alloc ?_ _ | with_reducible refine grow_drewN ?_ _)); done)) | (refine Below.setCell (Below.setCell (Below.mono ?_ (Nat.le_of_lt hpl)) (Nat.le_refl _) _) (Nat.le_refl _) _; focus ((repeat' (first | with_reducible exact Below.refl _ _ | with_reducible assumption | with_reducible refine grow_step (by with_reducible assumption) ?_ | with_reducible refine grow_drew ?_ | with_reducible refine grow_alloc ?_ _ | with_reducible refine grow_drewN ?_ _)); done)))
         clear hK K hHeld; intro hHeld
         (try simp only [Act.put, List.setIfInBounds_toArray, List.set_cons_zero, List.set_cons_succ])
         refine wpAnyH_done (by kernel_rfl) ?_ _
         exact ⟨rfl, ⟨_, _, _, _, _, _, _, _, _, _, _, _, _, _, _, rfl⟩, ⟨sv, av, lv, cv, zb_fin t5 sv av lv cv, by rw [lcm_step hg hma hfd]; exact zb_zn t5 zv _ _ _ _, by omega⟩, ((k5.mono (Nat.le_of_lt hpl)).setCell (Nat.le_refl _) _).setCell (Nat.le_refl _) _⟩
        exact AllReadyH.nil
       exact AllReadyH.nil
      exact AllReadyH.nil
     exact AllReadyH.nil
    exact AllReadyH.nil
   exact AllReadyH.nil
  exact AllReadyH.nil
 refine AllReadyH.cons (o := ⟨some 22, _, _, _, _, _⟩) rfl (fun K hK => ?_) ?_
 ·go_simp
  refine hK.out _ _ ?_ ?_
  ·(try dsimp only); (refine rl_keep hb e0 e1 ?_; first | (refine Below.mono ?_ (Nat.le_of_lt hpl); focus ((repeat' (first | with_reducible exact Below.refl _ _ | with_reducible assumption | with_reducible refine grow_step (by with_reducible assumption) ?_ | with_reducible refine grow_drew ?_ | with_reducible refine grow_alloc ?_ _ | with_reducible refine grow_drewN ?_ _)); done)) | (refine Below.setCell (Below.setCell (Below.mono ?_ (Nat.le_of_lt hpl)) (Nat.le_refl _) _) (Nat.le_refl _) _; focus ((repeat' (first | with_reducible exact Below.refl _ _ | with_reducible assumption | with_reducible refine grow_step (by with_reducible assumption) ?_ | with_reducible refine grow_drew ?_ | with_reducible refine grow_alloc ?_ _ | with_reducible refine grow_drewN ?_ _)); done)))
  clear hK K hHeld; intro hHeld
  (try simp only [Act.put, List.setIfInBounds_toArray, List.set_cons_zero, List.set_cons_succ])
  refine wpAnyH_ready (rs := [0, 6]) (by kernel_rfl) (by simp) ?_
  refine AllReadyH.cons (o := ⟨some 21, _, _, _, _, _⟩) rfl (fun K hK => ?_) ?_
  ·go_simp
   refine hK.out _ _ ?_ ?_
   ·(try dsimp only); (refine rl_keep hb e0 e1 ?_; first | (refine Below.mono ?_ (Nat.le_of_lt hpl); focus ((repeat' (first | with_reducible exact Below.refl _ _ | with_reducible assumption | with_reducible refine grow_step (by with_reducible assumption) ?_ | with_reducible refine grow_drew ?_ | with_reducible refine grow_alloc ?_ _ | with_reducible refine grow_drewN ?_ _)); done)) | (refine Below.setCell (Below.setCell (Below.mono ?_ (Nat.le_of_lt hpl)) (Nat.le_refl _) _) (Nat.le_refl _) _; focus ((repeat' (first | with_reducible exact Below.refl _ _ | with_reducible assumption | with_reducible refine grow_step (by with_reducible assumption) ?_ | with_reducible refine grow_drew ?_ | with_reducible refine grow_alloc ?_ _ | with_reducible refine grow_drewN ?_ _)); done)))
   clear hK K hHeld; intro hHeld
   (try simp only [Act.put, List.setIfInBounds_toArray, List.set_cons_zero, List.set_cons_succ])
   refine wpAnyH_ready (rs := [6]) (by kernel_rfl) (by simp) ?_
   refine AllReadyH.cons (o := ⟨some 27, _, _, _, _, _⟩) rfl (fun K hK => ?_) ?_
   ·go_simp
    refine hK.out _ _ ?_ ?_
    ·(try dsimp only); (refine rl_keep hb e0 e1 ?_; first | (refine Below.mono ?_ (Nat.le_of_lt hpl); focus ((repeat' (first | with_reducible exact Below.refl _ _ | with_reducible assumption | with_reducible refine grow_step (by with_reducible assumption) ?_ | with_reducible refine grow_drew ?_ | with_reducible refine grow_alloc ?_ _ | with_reducible refine grow_drewN ?_ _)); done)) | (refine Below.setCell (Below.setCell (Below.mono ?_ (Nat.le_of_lt hpl)) (Nat.le_refl _) _) (Nat.le_refl _) _; focus ((repeat' (first | with_reducible exact Below.refl _ _ | with_reducible assumption | with_reducible refine grow_step (by with_reducible assumption) ?_ | with_reducible refine grow_drew ?_ | with_reducible refine grow_alloc ?_ _ | with_reducible refine grow_drewN ?_ _)); done)))
    clear hK K hHeld; intro hHeld
    (try simp only [Act.put, List.setIfInBounds_toArray, List.set_cons_zero, List.set_cons_succ])
    refine wpAnyH_ready (rs := [7]) (by kernel_rfl) (by simp) ?_
    refine AllReadyH.cons (o := ⟨some 28, _, _, _, _, _⟩) rfl (fun K hK => ?_) ?_
    ·go_simp
     go_at_call 11; refine (rgcd_list ((zl_two (s1 := s1) (s2 := s) hg1 hm1 hl1 hl).below (Below.refl _ _).drew) (by simp [foldL] <;> omega) (by decide)).mono ?_; rintro e w2 ⟨sg2, ag, lg, cg, rfl, zgc, kg, hlg⟩; replace zgc := zgc; rw [fold2 hg1.nonneg] at zgc; have k2 : Below wr.heap.size wr w2 := (by (repeat' (first | with_reducible exact Below.refl _ _ | with_reducible assumption | with_reducible refine grow_step (by with_reducible assumption) ?_ | with_reducible refine grow_drew ?_ | with_reducible refine grow_alloc ?_ _ | with_reducible refine grow_drewN ?_ _))); have hlg2 : lg ≤ l1 + l := (by simpa [foldL] using hlg); have qa := (t.below k2).c0; have qb := (t.below k2).c1
     (try go_wp2_with fail)
     refine hK.out _ _ ?_ ?_
     ·(try dsimp only); (refine rl_keep hb e0 e1 ?_; first | (refine Below.mono ?_ (Nat.le_of_lt hpl); focus ((repeat' (first | with_reducible exact Below.refl _ _ | with_reducible assumption | with_reducible refine grow_step (by with_reducible assumption) ?_ | with_reducible refine grow_drew ?_ | with_reducible refine grow_alloc ?_ _ | with_reducible refine grow_drewN ?_ _)); done)) | (refine Below.setCell (Below.setCell (Below.mono ?_ (Nat.le_of_lt hpl)) (Nat.le_refl _) _) (Nat.le_refl _) _; focus ((repeat' (first | with_reducible exact Below.refl _ _ | with_reducible assumption | with_reducible refine grow_step (by with_reducible assumption) ?_ | with_reducible refine grow_drew ?_ | with_reducible refine grow_alloc ?_ _ | with_reducible refine grow_drewN ?_ _)); done)))
     clear hK K hHeld; intro hHeld
     (try simp only [Act.put, List.setIfInBounds_toArray, List.set_cons_zero, List.set_cons_succ])
     refine wpAnyH_ready (rs := [8]) (by kernel_rfl) (by simp) ?_
     refine AllReadyH.cons (o := ⟨some 29, _, _, _, _, _⟩) rfl (fun K hK => ?_) ?_
     ·go_simp
      go_at_call 36; refine (rfd_all (zg.below (by (repeat' (first | with_reducible exact Below.refl _ _ | with_reducible assumption | with_reducible refine grow_step (by with_reducible assumption) ?_ | with_reducible refine grow_drew ?_ | with_reducible refine grow_alloc ?_ _ | with_reducible refine grow_drewN ?_ _)))).zm (zgc.below (by (repeat' (first | with_reducible exact Below.refl _ _ | with_reducible assumption | with_reducible refine grow_step (by with_reducible assumption) ?_ | with_reducible refine grow_drew ?_ | with_reducible refine grow_alloc ?_ _ | with_reducible refine grow_drewN ?_ _)))).zm (by omega) (by omega) hG).mono ?_; rintro e w3 ⟨sf, af, lf, cf, qv, rv, rfl, zf, hfd, kf, hlf⟩
      (try go_wp2_with fail)
      refine hK.out _ _ ?_ ?_
      ·(try dsimp only); (refine rl_keep hb e0 e1 ?_; first | (refine Below.mono ?_ (Nat.le_of_lt hpl); focus ((repeat' (first | with_reducible exact Below.refl _ _ | with_reducible assumption | with_reducible refine grow_step (by with_reducible assumption) ?_ | with_reducible refine grow_drew ?_ | with_reducible refine grow_alloc ?_ _ | with_reducible refine grow_drewN ?_ _)); done)) | (refine Below.setCell (Below.setCell (Below.mono ?_ (Nat.le_of_lt hpl)) (Nat.le_refl _) _) (Nat.le_refl _) _; focus ((repeat' (first | with_reducible exact Below.refl _ _ | with_reducible assumption | with_reducible refine grow_step (by with_reducible assumption) ?_ | with_reducible refine grow_drew ?_ | with_reducible refine grow_alloc ?_ _ | with_reducible refine grow_drewN ?_ _)); done)))
      clear hK K hHeld; intro hHeld
      (try simp only [Act.put, List.setIfInBounds_toArray, List.set_cons_zero, List.set_cons_succ])
      refine wpAnyH_ready (rs := [13]) (by kernel_rfl) (by simp) ?_
      refine AllReadyH.cons (o := ⟨some 34, _, _, _, _, _⟩) rfl (fun K hK => ?_) ?_
      ·go_simp
       go_at_call 35; refine (rmul2_n zf.zm (zm.below (by (repeat' (first | with_reducible exact Below.refl _ _ | with_reducible assumption | with_reducible refine grow_step (by with_reducible assumption) ?_ | with_reducible refine grow_drew ?_ | with_reducible refine grow_alloc ?_ _ | with_reducible refine grow_drewN ?_ _)))) (by omega) (by omega)).mono ?_; rintro e w4 ⟨su, au, lu, cu, rfl, zu, ku, hlu⟩
       (try go_wp2_with fail)
       refine hK.out _ _ ?_ ?_
       ·(try dsimp only); (refine rl_keep hb e0 e1 ?_; first | (refine Below.mono ?_ (Nat.le_of_lt hpl); focus ((repeat' (first | with_reducible exact Below.refl _ _ | with_reducible assumption | with_reducible refine grow_step (by with_reducible assumption) ?_ | with_reducible refine grow_drew ?_ | with_reducible refine grow_alloc ?_ _ | with_reducible refine grow_drewN ?_ _)); done)) | (refine Below.setCell (Below.setCell (Below.mono ?_ (Nat.le_of_lt hpl)) (Nat.le_refl _) _) (Nat.le_refl _) _; focus ((repeat' (first | with_reducible exact Below.refl _ _ | with_reducible assumption | with_reducible refine grow_step (by with_reducible assumption) ?_ | with_reducible refine grow_drew ?_ | with_reducible refine grow_alloc ?_ _ | with_reducible refine grow_drewN ?_ _)); done)))
       clear hK K hHeld; intro hHeld
       (try simp only [Act.put, List.setIfInBounds_toArray, List.set_cons_zero, List.set_cons_succ])
       refine wpAnyH_ready (rs := [14]) (by kernel_rfl) (by simp) ?_
       refine AllReadyH.cons (o := ⟨some 35, _, _, _, _, _⟩) rfl (fun K hK => ?_) ?_
       ·go_simp
        go_at_call 34; refine (rabs_n zu.zm (by omega)).mono ?_; rintro e w5 ⟨sv, av, lv, cv, rfl, zv, kv, hlv⟩; have k5 : Below wr.heap.size wr w5 := (by (repeat' (first | with_reducible exact Below.refl _ _ | with_reducible assumption | with_reducible refine grow_step (by with_reducible assumption) ?_ | with_reducible refine grow_drew ?_ | with_reducible refine grow_alloc ?_ _ | with_reducible refine grow_drewN ?_ _))); have t5 := t.below k5; have z0 := t5.c0; have z1 := t5.c1; have z2 := t5.f 0; have z3 := t5.f 1
        (try go_wp2_with fail)
        refine hK.out _ _ ?_ ?_
        ·(try dsimp only); (refine rl_keep hb e0 e1 ?_; first | (refine Below.mono ?_ (Nat.le_of_lt hpl); focus ((repeat' (first | with_reducible exact Below.refl _ _ | with_reducible assumption | with_reducible refine grow_step (by with_reducible assumption) ?_ | with_reducible refine grow_drew ?_ | with_reducible refine grow_alloc ?_ _ | with_reducible refine grow_drewN ?_ _)); done)) | (refine Below.setCell (Below.setCell (Below.mono ?_ (Nat.le_of_lt hpl)) (Nat.le_refl _) _) (Nat.le_refl _) _; focus ((repeat' (first | with_reducible exact Below.refl _ _ | with_reducible assumption | with_reducible refine grow_step (by with_reducible assumption) ?_ | with_reducible refine grow_drew ?_ | with_reducible refine grow_alloc ?_ _ | with_reducible refine grow_drewN ?_ _)); done)))
        clear hK K hHeld; intro hHeld
        (try simp only [Act.put, List.setIfInBounds_toArray, List.set_cons_zero, List.set_cons_succ])
        refine wpAnyH_ready (rs := [15]) (by kernel_rfl) (by simp) ?_
        refine AllReadyH.cons (o := ⟨none, _, _, _, _, _⟩) rfl (fun K hK => ?_) ?_
        ·go_simp
         refine hK.out _ _ ?_ ?_
         ·(try dsimp only); (refine rl_keep hb e0 e1 ?_; first | (refine Below.mono ?_ (Nat.le_of_lt hpl); focus ((repeat' (first | with_reducible exact Below.refl _ _ | with_reducible assumption | with_reducible refine grow_step (by with_reducible assumption) ?_ | with_reducible refine grow_drew ?_ | with_reducible refine grow_alloc ?_ _ | with_reducible refine grow_drewN ?_ _)); done)) | (refine Below.setCell (Below.setCell (Below.mono ?_ (Nat.le_of_lt hpl)) (Nat.le_refl _) _) (Nat.le_refl _) _; focus ((repeat' (first | with_reducible exact Below.refl _ _ | with_reducible assumption | with_reducible refine grow_step (by with_reducible assumption) ?_ | with_reducible refine grow_drew ?_ | with_reducible refine grow_alloc ?_ _ | with_reducible refine grow_drewN ?_ _)); done)))
         clear hK K hHeld; intro hHeld
         (try simp only [Act.put, List.setIfInBounds_toArray, List.set_cons_zero, List.set_cons_succ])
         refine wpAnyH_done (by kernel_rfl) ?_ _
         exact ⟨rfl, ⟨_, _, _, _, _, _, _, _, _, _, _, _, _, _, _, rfl⟩, ⟨sv, av, lv, cv, zb_fin t5 sv av lv cv, by rw [lcm_step hg hma hfd]; exact zb_zn t5 zv _ _ _ _, by omega⟩, ((k5.mono (Nat.le_of_lt hpl)).setCell (Nat.le_refl _) _).setCell (Nat.le_refl _) _⟩
        exact AllReadyH.nil
       exact AllReadyH.nil
      exact AllReadyH.nil
     exact AllReadyH.nil
    exact AllReadyH.nil
   exact AllReadyH.nil
  refine AllReadyH.cons (o := ⟨some 27, _, _, _, _, _⟩) rfl (fun K hK => ?_) ?_
  ·go_simp
   refine hK.out _ _ ?_ ?_
   ·(try dsimp only); (refine rl_keep hb e0 e1 ?_; first | (refine Below.mono ?_ (Nat.le_of_lt hpl); focus ((repeat' (first | with_reducible exact Below.refl _ _ | with_reducible assumption | with_reducible refine grow_step (by with_reducible assumption) ?_ | with_reducible refine grow_drew ?_ | with_reducible refine grow_alloc ?_ _ | with_reducible refine grow_drewN ?_ _)); done)) | (refine Below.setCell (Below.setCell (Below.mono ?_ (Nat.le_of_lt hpl)) (Nat.le_refl _) _) (Nat.le_refl _) _; focus ((repeat' (first | with_reducible exact Below.refl _ _ | with_reducible assumption | with_reducible refine grow_step (by with_reducible assumption) ?_ | with_reducible refine grow_drew ?_ | with_reducible refine grow_alloc ?_ _ | with_reducible refine grow_drewN ?_ _)); done)))
   clear hK K hHeld; intro hHeld
   (try simp only [Act.put, List.setIfInBounds_toArray, List.set_cons_zero, List.set_cons_succ])
   refine wpAnyH_ready (rs := [0, 7]) (by kernel_rfl) (by simp) ?_
   refine AllReadyH.cons (o := ⟨some 21, _, _, _, _, _⟩) rfl (fun K hK => ?_) ?_
   ·go_simp
    refine hK.out _ _ ?_ ?_
    ·(try dsimp only); (refine rl_keep hb e0 e1 ?_; first | (refine Below.mono ?_ (Nat.le_of_lt hpl); focus ((repeat' (first | with_reducible exact Below.refl _ _ | with_reducible assumption | with_reducible refine grow_step (by with_reducible assumption) ?_ | with_reducible refine grow_drew ?_ | with_reducible refine grow_alloc ?_ _ | with_reducible refine grow_drewN ?_ _)); done)) | (refine Below.setCell (Below.setCell (Below.mono ?_ (Nat.le_of_lt hpl)) (Nat.le_refl _) _) (Nat.le_refl _) _; focus ((repeat' (first | with_reducible exact Below.refl _ _ | with_reducible assumption | with_reducible refine grow_step (by with_reducible assumption) ?_ | with_reducible refine grow_drew ?_ | with_reducible refine grow_alloc ?_ _ | with_reducible refine grow_drewN ?_ _)); done)))
    clear hK K hHeld; intro hHeld
    (try simp only [Act.put, List.setIfInBounds_toArray, List.set_cons_zero, List.set_cons_succ])
    refine wpAnyH_ready (rs := [7]) (by kernel_rfl) (by simp) ?_
    refine AllReadyH.cons (o := ⟨some 28, _, _, _, _, _⟩) rfl (fun K hK => ?_) ?_
    ·go_simp
     go_at_call 11; refine (rgcd_list ((zl_two (s1 := s1) (s2 := s) hg1 hm1 hl1 hl).below (Below.refl _ _).drew) (by simp [foldL] <;> omega) (by decide)).mono ?_; rintro e w2 ⟨sg2, ag, lg, cg, rfl, zgc, kg, hlg⟩; replace zgc := zgc; rw [fold2 hg1.nonneg] at zgc; have k2 : Below wr.heap.size wr w2 := (by (repeat' (first | with_reducible exact Below.refl _ _ | with_reducible assumption | with_reducible refine grow_step (by with_reducible assumption) ?_ | with_reducible refine grow_drew ?_ | with_reducible refine grow_alloc ?_ _ | with_reducible refine grow_drewN ?_ _))); have hlg2 : lg ≤ l1 + l := (by simpa [foldL] using hlg); have qa := (t.below k2).c0; have qb := (t.below k2).c1
     (try go_wp2_with fail)
     refine hK.out _ _ ?_ ?_
     ·(try dsimp only); (refine rl_keep hb e0 e1 ?_; first | (refine Below.mono ?_ (Nat.le_of_lt hpl); focus ((repeat' (first | with_reducible exact Below.refl _ _ | with_reducible assumption | with_reducible refine grow_step (by with_reducible assumption) ?_ | with_reducible refine grow_drew ?_ | with_reducible refine grow_alloc ?_ _ | with_reducible refine grow_drewN ?_ _)); done)) | (refine Below.setCell (Below.setCell (Below.mono ?_ (Nat.le_of_lt hpl)) (Nat.le_refl _) _) (Nat.le_refl _) _; focus ((repeat' (first | with_reducible exact Below.refl _ _ | with_reducible assumption | with_reducible refine grow_step (by with_reducible assumption) ?_ | with_reducible refine grow_drew ?_ | with_reducible refine grow_alloc ?_ _ | with_reducible refine grow_drewN ?_ _)); done)))
     clear hK K hHeld; intro hHeld
     (try simp only [Act.put, List.setIfInBounds_toArray, List.set_cons_zero, List.set_cons_succ])
     refine wpAnyH_ready (rs := [8]) (by kernel_rfl) (by simp) ?_
     refine AllReadyH.cons (o := ⟨some 29, _, _, _, _, _⟩) rfl (fun K hK => ?_) ?_
     ·go_simp
      go_at_call 36; refine (rfd_all (zg.below (by (repeat' (first | with_reducible exact Below.refl _ _ | with_reducible assumption | with_reducible refine grow_step (by with_reducible assumption) ?_ | with_reducible refine grow_drew ?_ | with_reducible refine grow_alloc ?_ _ | with_reducible refine grow_drewN ?_ _)))).zm (zgc.below (by (repeat' (first | with_reducible exact Below.refl _ _ | with_reducible assumption | with_reducible refine grow_step (by with_reducible assumption) ?_ | with_reducible refine grow_drew ?_ | with_reducible refine grow_alloc ?_ _ | with_reducible refine grow_drewN ?_ _)))).zm (by omega) (by omega) hG).mono ?_; rintro e w3 ⟨sf, af, lf, cf, qv, rv, rfl, zf, hfd, kf, hlf⟩
      (try go_wp2_with fail)
      refine hK.out _ _ ?_ ?_
      ·(try dsimp only); (refine rl_keep hb e0 e1 ?_; first | (refine Below.mono ?_ (Nat.le_of_lt hpl); focus ((repeat' (first | with_reducible exact Below.refl _ _ | with_reducible assumption | with_reducible refine grow_step (by with_reducible assumption) ?_ | with_reducible refine grow_drew ?_ | with_reducible refine grow_alloc ?_ _ | with_reducible refine grow_drewN ?_ _)); done)) | (refine Below.setCell (Below.setCell (Below.mono ?_ (Nat.le_of_lt hpl)) (Nat.le_refl _) _) (Nat.le_refl _) _; focus ((repeat' (first | with_reducible exact Below.refl _ _ | with_reducible assumption | with_reducible refine grow_step (by with_reducible assumption) ?_ | with_reducible refine grow_drew ?_ | with_reducible refine grow_alloc ?_ _ | with_reducible refine grow_drewN ?_ _)); done)))
      clear hK K hHeld; intro hHeld
      (try simp only [Act.put, List.setIfInBounds_toArray, List.set_cons_zero, List.set_cons_succ])
      refine wpAnyH_ready (rs := [13]) (by kernel_rfl) (by simp) ?_
      refine AllReadyH.cons (o := ⟨some 34, _, _, _, _, _⟩) rfl (fun K hK => ?_) ?_
      ·go_simp
       go_at_call 35; refine (rmul2_n zf.zm (zm.below (by (repeat' (first | with_reducible exact Below.refl _ _ | with_reducible assumption | with_reducible refine grow_step (by with_reducible assumption) ?_ | with_reducible refine grow_drew ?_ | with_reducible refine grow_alloc ?_ _ | with_reducible refine grow_drewN ?_ _)))) (by omega) (by omega)).mono ?_; rintro e w4 ⟨su, au, lu, cu, rfl, zu, ku, hlu⟩
       (try go_wp2_with fail)
       refine hK.out _ _ ?_ ?_
       ·(try dsimp only); (refine rl_keep hb e0 e1 ?_; first | (refine Below.mono ?_ (Nat.le_of_lt hpl); focus ((repeat' (first | with_reducible exact Below.refl _ _ | with_reducible assumption | with_reducible refine grow_step (by with_reducible assumption) ?_ | with_reducible refine grow_drew ?_ | with_reducible refine grow_alloc ?_ _ | with_reducible refine grow_drewN ?_ _)); done)) | (refine Below.setCell (Below.setCell (Below.mono ?_ (Nat.le_of_lt hpl)) (Nat.le_refl _) _) (Nat.le_refl _) _; focus ((repeat' (first | with_reducible exact Below.refl _ _ | with_reducible assumption | with_reducible refine grow_step (by with_reducible assumption) ?_ | with_reducible refine grow_drew ?_ | with_reducible refine grow_alloc ?_ _ | with_reducible refine grow_drewN ?_ _)); done)))
       clear hK K hHeld; intro hHeld
       (try simp only [Act.put, List.setIfInBounds_toArray, List.set_cons_zero, List.set_cons_succ])
       refine wpAnyH_ready (rs := [14]) (by kernel_rfl) (by simp) ?_
       refine AllReadyH.cons (o := ⟨some 35, _, _, _, _, _⟩) rfl (fun K hK => ?_) ?_
       ·go_simp
        go_at_call 34; refine (rabs_n zu.zm (by omega)).mono ?_; rintro e w5 ⟨sv, av, lv, cv, rfl, zv, kv, hlv⟩; have k5 : Below wr.heap.size wr w5 := (by (repeat' (first | with_reducible exact Below.refl _ _ | with_reducible assumption | with_reducible refine grow_step (by with_reducible assumption) ?_ | with_reducible refine grow_drew ?_ | with_reducible refine grow_alloc ?_ _ | with_reducible refine grow_drewN ?_ _))); have t5 := t.below k5; have z0 := t5.c0; have z1 := t5.c1; have z2 := t5.f 0; have z3 := t5.f 1
        (try go_wp2_with fail)
        refine hK.out _ _ ?_ ?_
        ·(try dsimp only); (refine rl_keep hb e0 e1 ?_; first | (refine Below.mono ?_ (Nat.le_of_lt hpl); focus ((repeat' (first | with_reducible exact Below.refl _ _ | with_reducible assumption | with_reducible refine grow_step (by with_reducible assumption) ?_ | with_reducible refine grow_drew ?_ | with_reducible refine grow_alloc ?_ _ | with_reducible refine grow_drewN ?_ _)); done)) | (refine Below.setCell (Below.setCell (Below.mono ?_ (Nat.le_of_lt hpl)) (Nat.le_refl _) _) (Nat.le_refl _) _; focus ((repeat' (first | with_reducible exact Below.refl _ _ | with_reducible assumption | with_reducible refine grow_step (by with_reducible assumption) ?_ | with_reducible refine grow_drew ?_ | with_reducible refine grow_alloc ?_ _ | with_reducible refine grow_drewN ?_ _)); done)))
        clear hK K hHeld; intro hHeld
        (try simp only [Act.put, List.setIfInBounds_toArray, List.set_cons_zero, List.set_cons_succ])
        refine wpAnyH_ready (rs := [15]) (by kernel_rfl) (by simp) ?_
        refine AllReadyH.cons (o := ⟨none, _, _, _, _, _⟩) rfl (fun K hK => ?_) ?_
        ·go_simp
         refine hK.out _ _ ?_ ?_
         ·(try dsimp only); (refine rl_keep hb e0 e1 ?_; first | (refine Below.mono ?_ (Nat.le_of_lt hpl); focus ((repeat' (first | with_reducible exact Below.refl _ _ | with_reducible assumption | with_reducible refine grow_step (by with_reducible assumption) ?_ | with_reducible refine grow_drew ?_ | with_reducible refine grow_alloc ?_ _ | with_reducible refine grow_drewN ?_ _)); done)) | (refine Below.setCell (Below.setCell (Below.mono ?_ (Nat.le_of_lt hpl)) (Nat.le_refl _) _) (Nat.le_refl _) _; focus ((repeat' (first | with_reducible exact Below.refl _ _ | with_reducible assumption | with_reducible refine grow_step (by with_reducible assumption) ?_ | with_reducible refine grow_drew ?_ | with_reducible refine grow_alloc ?_ _ | with_reducible refine grow_drewN ?_ _)); done)))
         clear hK K hHeld; intro hHeld
         (try simp only [Act.put, List.setIfInBounds_toArray, List.set_cons_zero, List.set_cons_succ])
         refine wpAnyH_done (by kernel_rfl) ?_ _
         exact ⟨rfl, ⟨_, _, _, _, _, _, _, _, _, _, _, _, _, _, _, rfl⟩, ⟨sv, av, lv, cv, zb_fin t5 sv av lv cv, by rw [lcm_step hg hma hfd]; exact zb_zn t5 zv _ _ _ _, by omega⟩, ((k5.mono (Nat.le_of_lt hpl)).setCell (Nat.le_refl _) _).setCell (Nat.le_refl _) _⟩
        exact AllReadyH.nil
       exact AllReadyH.nil
      exact AllReadyH.nil
     exact AllReadyH.nil
    exact AllReadyH.nil
   refine AllReadyH.cons (o := ⟨some 28, _, _, _, _, _⟩) rfl (fun K hK => ?_) ?_
   ·go_simp
    go_at_call 11; refine (rgcd_list ((zl_two (s1 := s1) (s2 := s) hg1 hm1 hl1 hl).below (Below.refl _ _).drew) (by simp [foldL] <;> omega) (by decide)).mono ?_; rintro e w2 ⟨sg2, ag, lg, cg, rfl, zgc, kg, hlg⟩; replace zgc := zgc; rw [fold2 hg1.nonneg] at zgc; have k2 : Below wr.heap.size wr w2 := (by (repeat' (first | with_reducible exact Below.refl _ _ | with_reducible assumption | with_reducible refine grow_step (by with_reducible assumption) ?_ | with_reducible refine grow_drew ?_ | with_reducible refine grow_alloc ?_ _ | with_reducible refine grow_drewN ?_ _))); have hlg2 : lg ≤ l1 + l := (by simpa [foldL] using hlg); have qa := (t.below k2).c0; have qb := (t.below k2).c1
    (try go_wp2_with fail)
    refine hK.out _ _ ?_ ?_
    ·(try dsimp only); (refine rl_keep hb e0 e1 ?_; first | (refine Below.mono ?_ (Nat.le_of_lt hpl); focus ((repeat' (first | with_reducible exact Below.refl _ _ | with_reducible assumption | with_reducible refine grow_step (by with_reducible assumption) ?_ | with_reducible refine grow_drew ?_ | with_reducible refine grow_alloc ?_ _ | with_reducible refine grow_drewN ?_ _)); done)) | (refine Below.setCell (Below.setCell (Below.mono ?_ (Nat.le_of_lt hpl)) (Nat.le_refl _) _) (Nat.le_refl _) _; focus ((repeat' (first | with_reducible exact Below.refl _ _ | with_reducible assumption | with_reducible refine grow_step (by with_reducible assumption) ?_ | with_reducible refine grow_drew ?_ | with_reducible refine grow_alloc ?_ _ | with_reducible refine grow_drewN ?_ _)); done)))
    clear hK K hHeld; intro hHeld
    (try simp only [Act.put, List.setIfInBounds_toArray, List.set_cons_zero, List.set_cons_succ])
    refine wpAnyH_ready (rs := [0]) (by kernel_rfl) (by simp) ?_
    refine AllReadyH.cons (o := ⟨some 21, _, _, _, _, _⟩) rfl (fun K hK => ?_) ?_
    ·go_simp
     refine hK.out _ _ ?_ ?_
     ·(try dsimp only); (refine rl_keep hb e0 e1 ?_; first | (refine Below.mono ?_ (Nat.le_of_lt hpl); focus ((repeat' (first | with_reducible exact Below.refl _ _ | with_reducible assumption | with_reducible refine grow_step (by with_reducible assumption) ?_ | with_reducible refine grow_drew ?_ | with_reducible refine grow_alloc ?_ _ | with_reducible refine grow_drewN ?_ _)); done)) | (refine Below.setCell (Below.setCell (Below.mono ?_ (Nat.le_of_lt hpl)) (Nat.le_refl _) _) (Nat.le_refl _) _; focus ((repeat' (first | with_reducible exact Below.refl _ _ | with_reducible assumption | with_reducible refine grow_step (by with_reducible assumption) ?_ | with_reducible refine grow_drew ?_ | with_reducible refine grow_alloc ?_ _ | with_reducible refine grow_drewN ?_ _)); done)))
     clear hK K hHeld; intro hHeld
     (try simp only [Act.put, List.setIfInBounds_toArray, List.set_cons_zero, List.set_cons_succ])
     refine wpAnyH_ready (rs := [8]) (by kernel_rfl) (by simp) ?_
     refine AllReadyH.cons (o := ⟨some 29, _, _, _, _, _⟩) rfl (fun K hK => ?_) ?_
     ·go_simp
      go_at_call 36; refine (rfd_all (zg.below (by (repeat' (first | with_reducible exact Below.refl _ _ | with_reducible assumption | with_reducible refine grow_step (by with_reducible assumption) ?_ | with_reducible refine grow_drew ?_ | with_reducible refine grow_alloc ?_ _ | with_reducible refine grow_drewN ?_ _)))).zm (zgc.below (by (repeat' (first | with_reducible exact Below.refl _ _ | with_reducible assumption | with_reducible refine grow_step (by with_reducible assumption) ?_ | with_reducible refine grow_drew ?_ | with_reducible refine grow_alloc ?_ _ | with_reducible refine grow_drewN ?_ _)))).zm (by omega) (by omega) hG).mono ?_; rintro e w3 ⟨sf, af, lf, cf, qv, rv, rfl, zf, hfd, kf, hlf⟩
      (try go_wp2_with fail)
      refine hK.out _ _ ?_ ?_
      ·(try dsimp only); (refine rl_keep hb e0 e1 ?_; first | (refine Below.mono ?_ (Nat.le_of_lt hpl); focus ((repeat' (first | with_reducible exact Below.refl _ _ | with_reducible assumption | with_reducible refine grow_step (by with_reducible assumption) ?_ | with_reducible refine grow_drew ?_ | with_reducible refine grow_alloc ?_ _ | with_reducible refine grow_drewN ?_ _)); done)) | (refine Below.setCell (Below.setCell (Below.mono ?_ (Nat.le_of_lt hpl)) (Nat.le_refl _) _) (Nat.le_refl _) _; focus ((repeat' (first | with_reducible exact Below.refl _ _ | with_reducible assumption | with_reducible refine grow_step (by with_reducible assumption) ?_ | with_reducible refine grow_drew ?_ | with_reducible refine grow_alloc ?_ _ | with_reducible refine grow_drewN ?_ _)); done)))
      clear hK K hHeld; intro hHeld
      (try simp only [Act.put, List.setIfInBounds_toArray, List.set_cons_zero, List.set_cons_succ])
      refine wpAnyH_ready (rs := [13]) (by kernel_rfl) (by simp) ?_
      refine AllReadyH.cons (o := ⟨some 34, _, _, _, _, _⟩) rfl (fun K hK => ?_) ?_
      ·go_simp
       go_at_call 35; refine (rmul2_n zf.zm (zm.below (by (repeat' (first | with_reducible exact Below.refl _ _ | with_reducible assumption | with_reducible refine grow_step (by with_reducible assumption) ?_ | with_reducible refine grow_drew ?_ | with_reducible refine grow_alloc ?_ _ | with_reducible refine grow_drewN ?_ _)))) (by omega) (by omega)).mono ?_; rintro e w4 ⟨su, au, lu, cu, rfl, zu, ku, hlu⟩
       (try go_wp2_with fail)
       refine hK.out _ _ ?_ ?_
       ·(try dsimp only); (refine rl_keep hb e0 e1 ?_; first | (refine Below.mono ?_ (Nat.le_of_lt hpl); focus ((repeat' (first | with_reducible exact Below.refl _ _ | with_reducible assumption | with_reducible refine grow_step (by with_reducible assumption) ?_ | with_reducible refine grow_drew ?_ | with_reducible refine grow_alloc ?_ _ | with_reducible refine grow_drewN ?_ _)); done)) | (refine Below.setCell (Below.setCell (Below.mono ?_ (Nat.le_of_lt hpl)) (Nat.le_refl _) _) (Nat.le_refl _) _; focus ((repeat' (first | with_reducible exact Below.refl _ _ | with_reducible assumption | with_reducible refine grow_step (by with_reducible assumption) ?_ | with_reducible refine grow_drew ?_ | with_reducible refine grow_alloc ?_ _ | with_reducible refine grow_drewN ?_ _)); done)))
       clear hK K hHeld; intro hHeld
       (try simp only [Act.put, List.setIfInBounds_toArray, List.set_cons_zero, List.set_cons_succ])
       refine wpAnyH_ready (rs := [14]) (by kernel_rfl) (by simp) ?_
       refine AllReadyH.cons (o := ⟨some 35, _, _, _, _, _⟩) rfl (fun K hK => ?_) ?_
       ·go_simp
        go_at_call 34; refine (rabs_n zu.zm (by omega)).mono ?_; rintro e w5 ⟨sv, av, lv, cv, rfl, zv, kv, hlv⟩; have k5 : Below wr.heap.size wr w5 := (by (repeat' (first | with_reducible exact Below.refl _ _ | with_reducible assumption | with_reducible refine grow_step (by with_reducible assumption) ?_ | with_reducible refine grow_drew ?_ | with_reducible refine grow_alloc ?_ _ | with_reducible refine grow_drewN ?_ _))); have t5 := t.below k5; have z0 := t5.c0; have z1 := t5.c1; have z2 := t5.f 0; have z3 := t5.f 1
        (try go_wp2_with fail)
        refine hK.out _ _ ?_ ?_
        ·(try dsimp only); (refine rl_keep hb e0 e1 ?_; first | (refine Below.mono ?_ (Nat.le_of_lt hpl); focus ((repeat' (first | with_reducible exact Below.refl _ _ | with_reducible assumption | with_reducible refine grow_step (by with_reducible assumption) ?_ | with_reducible refine grow_drew ?_ | with_reducible refine grow_alloc ?_ _ | with_reducible refine grow_drewN ?_ _)); done)) | (refine Below.setCell (Below.setCell (Below.mono ?_ (Nat.le_of_lt hpl)) (Nat.le_refl _) _) (Nat.le_refl _) _; focus ((repeat' (first | with_reducible exact Below.refl _ _ | with_reducible assumption | with_reducible refine grow_step (by with_reducible assumption) ?_ | with_reducible refine grow_drew ?_ | with_reducible refine grow_alloc ?_ _ | with_reducible refine grow_drewN ?_ _)); done)))
        clear hK K hHeld; intro hHeld
        (try simp only [Act.put, List.setIfInBounds_toArray, List.set_cons_zero, List.set_cons_succ])
        refine wpAnyH_ready (rs := [15]) (by kernel_rfl) (by simp) ?_
        refine AllReadyH.cons (o := ⟨none, _, _, _, _, _⟩) rfl (fun K hK => ?_) ?_
        ·go_simp
         refine hK.out _ _ ?_ ?_
         ·(try dsimp only); (refine rl_keep hb e0 e1 ?_; first | (refine Below.mono ?_ (Nat.le_of_lt hpl); focus ((repeat' (first | with_reducible exact Below.refl _ _ | with_reducible assumption | with_reducible refine grow_step (by with_reducible assumption) ?_ | with_reducible refine grow_drew ?_ | with_reducible refine grow_alloc ?_ _ | with_reducible refine grow_drewN ?_ _)); done)) | (refine Below.setCell (Below.setCell (Below.mono ?_ (Nat.le_of_lt hpl)) (Nat.le_refl _) _) (Nat.le_refl _) _; focus ((repeat' (first | with_reducible exact Below.refl _ _ | with_reducible assumption | with_reducible refine grow_step (by with_reducible assumption) ?_ | with_reducible refine grow_drew ?_ | with_reducible refine grow_alloc ?_ _ | with_reducible refine grow_drewN ?_ _)); done)))
         clear hK K hHeld; intro hHeld
         (try simp only [Act.put, List.setIfInBounds_toArray, List.set_cons_zero, List.set_cons_succ])
         refine wpAnyH_done (by kernel_rfl) ?_ _
         exact ⟨rfl, ⟨_, _, _, _, _, _, _, _, _, _, _, _, _, _, _, rfl⟩, ⟨sv, av, lv, cv, zb_fin t5 sv av lv cv, by rw [lcm_step hg hma hfd]; exact zb_zn t5 zv _ _ _ _, by omega⟩, ((k5.mono (Nat.le_of_lt hpl)).setCell (Nat.le_refl _) _).setCell (Nat.le_refl _) _⟩
        exact AllReadyH.nil
       exact AllReadyH.nil
      exact AllReadyH.nil
     exact AllReadyH.nil
    exact AllReadyH.nil
   exact AllReadyH.nil
  exact AllReadyH.nil
 exact AllReadyH.nil
end Go.Proofs.YtmlephkmbkiofaaGreatDoor

namespace Go.Proofs.YtmlephkmbkiofaaGreatDoor
open Go.RowKit

theorem lcmI_zero_left (n : Int) : lcmI 0 n = 0 := by unfold lcmI; simp
theorem lcmI_zero_right (m : Int) : lcmI m 0 = 0 := by unfold lcmI; simp
theorem fold_lcm_zero {g : Int} {M : Nat → Int} {k n : Nat} (hk : k < n) (h : M k = 0) : fold lcmI g M n = 0 := by
 induction n with
 | zero => omega
 | succ n ih =>
  show lcmI (fold lcmI g M n) (M n) = 0
  by_cases e : k = n
  ·rw [← e, h]; exact lcmI_zero_right _
  ·rw [ih (by omega)]; exact lcmI_zero_left _
theorem lcmI_pos {g m : Int} (hg : 0 < g) (hm : 0 < m) : 0 < lcmI g m := by
 have eg : (g.natAbs : Int) = g := by omega
 have em : (m.natAbs : Int) = m := by omega
 have hc := common_all g m
 rw [eg, em] at hc
 have h1 : 0 < g * m := Int.mul_pos hg hm
 have h2 := gcdI_nonneg g m
 have e : ((g * m).natAbs : Int) = g * m := by omega
 rw [e] at hc
 rcases Int.lt_or_le 0 (lcmI g m) with h | h
 ·exact h
 ·have := Int.mul_nonpos_of_nonneg_of_nonpos h2 h
  omega
theorem cmpI_sg0 {s : Bool} {m : Int} (h : m ≠ 0) : cmpI (sg s m) 0 ≠ 0 := by cases s <;> simp [sg, cmpI] <;> omega

end Go.Proofs.YtmlephkmbkiofaaGreatDoor

namespace Go.Proofs.YtmlephkmbkiofaaGreatDoor
open Go.RowKit

set_option maxRecDepth 100000 in
set_option maxHeartbeats 1600000 in
theorem fold1_GcdA {adl : Option Addr} {w : World} {b off n cap pN pJ : Nat} {S : Nat → Bool} {A : Nat → Option Addr} {L C : Nat → Nat} {M : Nat → Int} {a0 : Option Addr} {l0 c0 : Nat} {g : Int}
  (hl : ZL w b off n S A L C M) (had : 0 < n → adl = some ⟨b, off, none⟩) (hb : foldL l0 L n ≤ 1099511627776) (h0 : Cn w a0 l0 c0 g)
  (hN : w.heap[pN]? = some (.cells #[.slice a0 l0 c0] 24 (0, 0))) (hj : w.cell? ⟨pJ, 0, none⟩ = some (.func (.func 29) #[] #[])) (hjl : pJ < w.heap.size) (hn : n ≤ 1099511627776) :
  Calls Tryz.prog 49 #[.slice adl n cap, .pointer (some ⟨pN, 0, none⟩), .pointer (some ⟨pJ, 0, none⟩)] w fun e w' => ∃ s' ad len cap, e = .returned (.agg #[.bool s', .slice ad len cap]) ∧ Zn w' s' ad len cap (fold gcdI g M n) ∧ Below w.heap.size w w' ∧ len ≤ foldL l0 L n := by
 have hNc : w.cell? ⟨pN, 0, none⟩ = some (.slice a0 l0 c0) := cell_of_row w pN 0 _ _ (0, 0) hN
 have hNl : pN < w.heap.size := World.block_lt_of_cell? w ⟨pN, 0, none⟩ hNc
 go_enter Tryz.func49, Tryz.ntmps49
 go_wp2_with fail
 have y := zb_new w false none 0 0
 have b0 := below_alloc w (.cells #[.bool false, .slice none 0 0] 26)
 replace hl := hl.below b0
 replace h0 := h0.below b0
 replace hj := (b0.cell (p := ⟨pJ, 0, none⟩) hjl).trans hj
 clear hNc hNl hN
 replace hjl : pJ < (w.alloc (.cells #[.bool false, .slice none 0 0] 26)).heap.size := Nat.lt_of_lt_of_le hjl b0.size
 generalize w.alloc (.cells #[.bool false, .slice none 0 0] 26) = wb at *
 generalize hp : w.heap.size = r at *
 replace hp := hide hp
 have hmono : ∀ k, k < n → foldL l0 L k + L k ≤ foldL l0 L n := by
  intro k hk
  have key : ∀ d, foldL l0 L (k + 1) ≤ foldL l0 L (k + 1 + d) := by
   intro d
   induction d with
   | zero => exact Nat.le_refl _
   | succ d ih => exact Nat.le_trans ih (Nat.le_add_right _ _)
  have := key (n - (k + 1))
  rw [show k + 1 + (n - (k + 1)) = n from by omega] at this
  exact this
 replace hmono := hide hmono
 go_loopw [5, 11] (fun t i wr => ∃ (k : Nat) (at' : Option Addr) (lt ct : Nat), k ≤ n ∧ i = .int .i64 k ∧ t = .slice at' lt ct ∧ Cn wr at' lt ct (fold gcdI g M k) ∧ lt ≤ foldL l0 L k ∧ Below wb.heap.size wb wr) (fun _ i _ => n - (intOf i).toNat)
 case atStart => exact ⟨0, a0, l0, c0, Nat.zero_le _, rfl, rfl, h0, Nat.le_refl _, Below.refl _ _⟩
 case round =>
  obtain ⟨k, at', lt, ct, hk, rfl, rfl, hct, hlt, kr⟩ := hrel
  by_cases hkN : k < n
  ·obtain rfl := had (by omega)
   have q := hl.below kr
   have e0 := q.c0 k hkN
   have e1 := q.c1 k hkN
   have ej := (kr.cell (p := ⟨pJ, 0, none⟩) hjl).trans hj
   have hnm := q.nm k hkN
   have hle := hl.le k hkN
   have hmk := unhide hmono k hkN
   have hlb := q.lt
   have hjr : pJ < wr.heap.size := Nat.lt_of_lt_of_le hjl kr.size
   have ka := below_alloc wr (.cells #[.bool (S k), .slice (A k) (L k) (C k)] 26)
   go_wp2_with fail
   refine (gcd_n (hct.below ka).nm (hnm.below ka) (by omega) (by omega)).mono ?_
   rintro e w2 ⟨ad, len, cap', rfl, hc2, k2, hl2⟩
   go_wp2_with fail
   exact ⟨⟨k + 1, ad, len, cap', by omega, by go_num, rfl, hc2, by show len ≤ foldL l0 L k + L k; omega, grow_step k2 (grow_step ka kr)⟩, by simp [intOf]; omega⟩
  ·obtain rfl : k = n := by omega
   go_wp2_with fail
   refine (stand_n hct).mono ?_
   rintro e w' ⟨s', rfl, hz, hg⟩
   have y' : ZB w' r false none 0 0 := ZB.below y (grow_step hg kr)
   have y0 := y'.c0
   have y1 := y'.c1
   have y2 := y'.f 0
   have y3 := y'.f 1
   have hB : Below r w w' := b0.trans ((grow_step hg kr).mono (Nat.le_of_lt y.lt))
   go_wp2
   refine bodyPost_ret (results_cell_row rfl _ _ r 26 _ (0, 0) _ rfl (zb_fin y' s' at' lt ct) Tryz.underlying26 rfl (by kernel_rfl)) rfl ?_
   exact ⟨s', at', lt, ct, by simp, zb_zn y' hz _ _ _ _, hp.out.symm ▸ (hB.setCell (Nat.le_refl _) _).setCell (Nat.le_refl _) _, hlt⟩
set_option maxRecDepth 100000 in
set_option maxHeartbeats 1600000 in
theorem fold1_LcmA {adl : Option Addr} {w : World} {b off n cap pN pJ : Nat} {S : Nat → Bool} {A : Nat → Option Addr} {L C : Nat → Nat} {M : Nat → Int} {a0 : Option Addr} {l0 c0 : Nat} {g : Int}
  (hl : ZL w b off n S A L C M) (had : 0 < n → adl = some ⟨b, off, none⟩) (hb : foldL l0 L n ≤ 1099511627776) (h0 : Cn w a0 l0 c0 g)
  (hN : w.heap[pN]? = some (.cells #[.slice a0 l0 c0] 24 (0, 0))) (hj : w.cell? ⟨pJ, 0, none⟩ = some (.func (.func 30) #[] #[])) (hjl : pJ < w.heap.size) (hn : n ≤ 1099511627776) :
  Calls Tryz.prog 49 #[.slice adl n cap, .pointer (some ⟨pN, 0, none⟩), .pointer (some ⟨pJ, 0, none⟩)] w fun e w' => ∃ s' ad len cap, e = .returned (.agg #[.bool s', .slice ad len cap]) ∧ Zn w' s' ad len cap (fold lcmI g M n) ∧ Below w.heap.size w w' ∧ len ≤ foldL l0 L n := by
 have hNc : w.cell? ⟨pN, 0, none⟩ = some (.slice a0 l0 c0) := cell_of_row w pN 0 _ _ (0, 0) hN
 have hNl : pN < w.heap.size := World.block_lt_of_cell? w ⟨pN, 0, none⟩ hNc
 go_enter Tryz.func49, Tryz.ntmps49
 go_wp2_with fail
 have y := zb_new w false none 0 0
 have b0 := below_alloc w (.cells #[.bool false, .slice none 0 0] 26)
 replace hl := hl.below b0
 replace h0 := h0.below b0
 replace hj := (b0.cell (p := ⟨pJ, 0, none⟩) hjl).trans hj
 clear hNc hNl hN
 replace hjl : pJ < (w.alloc (.cells #[.bool false, .slice none 0 0] 26)).heap.size := Nat.lt_of_lt_of_le hjl b0.size
 generalize w.alloc (.cells #[.bool false, .slice none 0 0] 26) = wb at *
 generalize hp : w.heap.size = r at *
 replace hp := hide hp
 have hmono : ∀ k, k < n → foldL l0 L k + L k ≤ foldL l0 L n := by
  intro k hk
  have key : ∀ d, foldL l0 L (k + 1) ≤ foldL l0 L (k + 1 + d) := by
   intro d
   induction d with
   | zero => exact Nat.le_refl _
   | succ d ih => exact Nat.le_trans ih (Nat.le_add_right _ _)
  have := key (n - (k + 1))
  rw [show k + 1 + (n - (k + 1)) = n from by omega] at this
  exact this
 replace hmono := hide hmono
 go_loopw [5, 11] (fun t i wr => ∃ (k : Nat) (at' : Option Addr) (lt ct : Nat), k ≤ n ∧ i = .int .i64 k ∧ t = .slice at' lt ct ∧ Cn wr at' lt ct (fold lcmI g M k) ∧ lt ≤ foldL l0 L k ∧ Below wb.heap.size wb wr) (fun _ i _ => n - (intOf i).toNat)
 case atStart => exact ⟨0, a0, l0, c0, Nat.zero_le _, rfl, rfl, h0, Nat.le_refl _, Below.refl _ _⟩
 case round =>
  obtain ⟨k, at', lt, ct, hk, rfl, rfl, hct, hlt, kr⟩ := hrel
  by_cases hkN : k < n
  ·obtain rfl := had (by omega)
   have q := hl.below kr
   have e0 := q.c0 k hkN
   have e1 := q.c1 k hkN
   have ej := (kr.cell (p := ⟨pJ, 0, none⟩) hjl).trans hj
   have hnm := q.nm k hkN
   have hle := hl.le k hkN
   have hmk := unhide hmono k hkN
   have hlb := q.lt
   have hjr : pJ < wr.heap.size := Nat.lt_of_lt_of_le hjl kr.size
   have ka := below_alloc wr (.cells #[.bool (S k), .slice (A k) (L k) (C k)] 26)
   go_wp2_with fail
   refine (lcm_n (hct.below ka).nm (hnm.below ka) (by omega) (by omega)).mono ?_
   rintro e w2 ⟨ad, len, cap', rfl, hc2, k2, hl2⟩
   go_wp2_with fail
   exact ⟨⟨k + 1, ad, len, cap', by omega, by go_num, rfl, hc2, by show len ≤ foldL l0 L k + L k; omega, grow_step k2 (grow_step ka kr)⟩, by simp [intOf]; omega⟩
  ·obtain rfl : k = n := by omega
   go_wp2_with fail
   refine (stand_n hct).mono ?_
   rintro e w' ⟨s', rfl, hz, hg⟩
   have y' : ZB w' r false none 0 0 := ZB.below y (grow_step hg kr)
   have y0 := y'.c0
   have y1 := y'.c1
   have y2 := y'.f 0
   have y3 := y'.f 1
   have hB : Below r w w' := b0.trans ((grow_step hg kr).mono (Nat.le_of_lt y.lt))
   go_wp2
   refine bodyPost_ret (results_cell_row rfl _ _ r 26 _ (0, 0) _ rfl (zb_fin y' s' at' lt ct) Tryz.underlying26 rfl (by kernel_rfl)) rfl ?_
   exact ⟨s', at', lt, ct, by simp, zb_zn y' hz _ _ _ _, hp.out.symm ▸ (hB.setCell (Nat.le_refl _) _).setCell (Nat.le_refl _) _, hlt⟩
set_option maxRecDepth 100000 in
set_option maxHeartbeats 1600000 in
theorem zgcd_anyA {adl : Option Addr} {w : World} {b off n cap : Nat} {S : Nat → Bool} {A : Nat → Option Addr} {L C : Nat → Nat} {M : Nat → Int} (hl : ZL w b off n S A L C M) (had : 0 < n → adl = some ⟨b, off, none⟩) (hb : foldL 2 L n ≤ 1099511627776) (hn : n ≤ 1099511627776) :
  Calls Tryz.prog 7 #[.slice adl n cap] w fun e w' => ∃ s' ad len cap, e = .returned (.agg #[.bool s', .slice ad len cap]) ∧ Zn w' s' ad len cap (fold gcdI 0 M n) ∧ Below w.heap.size w w' ∧ len ≤ foldL 2 L n := by
 go_enter Tryz.func7, Tryz.ntmps7
 go_wp2_with fail
 have y := zb_new w false none 0 0
 have b0 := below_alloc w (.cells #[.bool false, .slice none 0 0] 26)
 replace hl := hl.below b0
 generalize w.alloc (.cells #[.bool false, .slice none 0 0] 26) = wb at *
 generalize hp : w.heap.size = r at *
 replace hp := hide hp
 refine (of_n 0 (by decide) (by decide) _).mono ?_
 rintro e w1 ⟨a0, l0, c0, rfl, hc, k1, hl0⟩
 go_wp2_with fail
 refine (folded_Gcd (ad := a0) (len := l0) (cap := c0)).mono ?_
 rintro e w2 ⟨pN, pJ, rfl, hN, hj, hjl, k2⟩
 go_wp2_with fail
 have hm : foldL l0 L n ≤ foldL 2 L n := foldL_mono hl0 L n
 refine (fold1_GcdA (hl.below (grow_step k2 k1)) had (by omega) (hc.below k2) hN hj hjl hn).mono ?_
 rintro e w' ⟨s', ad, len, cap', rfl, hz, hg, hl'⟩
 have y' : ZB w' r false none 0 0 := ZB.below y (grow_step hg (grow_step k2 k1))
 have y0 := y'.c0
 have y1 := y'.c1
 have y2 := y'.f 0
 have y3 := y'.f 1
 have hB : Below r w w' := b0.trans ((grow_step hg (grow_step k2 k1)).mono (Nat.le_of_lt y.lt))
 go_wp2
 refine bodyPost_ret (results_cell_row rfl _ _ r 26 _ (0, 0) _ rfl (zb_fin y' s' ad len cap') Tryz.underlying26 rfl (by kernel_rfl)) rfl ?_
 exact ⟨s', ad, len, cap', by simp, zb_zn y' hz _ _ _ _, hp.out.symm ▸ (hB.setCell (Nat.le_refl _) _).setCell (Nat.le_refl _) _, by omega⟩
set_option maxRecDepth 100000 in
set_option maxHeartbeats 1600000 in
theorem zlcm_anyA {adl : Option Addr} {w : World} {b off n cap : Nat} {S : Nat → Bool} {A : Nat → Option Addr} {L C : Nat → Nat} {M : Nat → Int} (hl : ZL w b off n S A L C M) (had : 0 < n → adl = some ⟨b, off, none⟩) (hb : foldL 2 L n ≤ 1099511627776) (hn : n ≤ 1099511627776) :
  Calls Tryz.prog 8 #[.slice adl n cap] w fun e w' => ∃ s' ad len cap, e = .returned (.agg #[.bool s', .slice ad len cap]) ∧ Zn w' s' ad len cap (fold lcmI 1 M n) ∧ Below w.heap.size w w' ∧ len ≤ foldL 2 L n := by
 go_enter Tryz.func8, Tryz.ntmps8
 go_wp2_with fail
 have y := zb_new w false none 0 0
 have b0 := below_alloc w (.cells #[.bool false, .slice none 0 0] 26)
 replace hl := hl.below b0
 generalize w.alloc (.cells #[.bool false, .slice none 0 0] 26) = wb at *
 generalize hp : w.heap.size = r at *
 replace hp := hide hp
 refine (of_n 1 (by decide) (by decide) _).mono ?_
 rintro e w1 ⟨a0, l0, c0, rfl, hc, k1, hl0⟩
 go_wp2_with fail
 refine (folded_Lcm (ad := a0) (len := l0) (cap := c0)).mono ?_
 rintro e w2 ⟨pN, pJ, rfl, hN, hj, hjl, k2⟩
 go_wp2_with fail
 have hm : foldL l0 L n ≤ foldL 2 L n := foldL_mono hl0 L n
 refine (fold1_LcmA (hl.below (grow_step k2 k1)) had (by omega) (hc.below k2) hN hj hjl hn).mono ?_
 rintro e w' ⟨s', ad, len, cap', rfl, hz, hg, hl'⟩
 have y' : ZB w' r false none 0 0 := ZB.below y (grow_step hg (grow_step k2 k1))
 have y0 := y'.c0
 have y1 := y'.c1
 have y2 := y'.f 0
 have y3 := y'.f 1
 have hB : Below r w w' := b0.trans ((grow_step hg (grow_step k2 k1)).mono (Nat.le_of_lt y.lt))
 go_wp2
 refine bodyPost_ret (results_cell_row rfl _ _ r 26 _ (0, 0) _ rfl (zb_fin y' s' ad len cap') Tryz.underlying26 rfl (by kernel_rfl)) rfl ?_
 exact ⟨s', ad, len, cap', by simp, zb_zn y' hz _ _ _ _, hp.out.symm ▸ (hB.setCell (Nat.le_refl _) _).setCell (Nat.le_refl _) _, by omega⟩
set_option maxRecDepth 100000 in
set_option maxHeartbeats 1600000 in
theorem rgcd_listA {adl : Option Addr} {w : World} {b off n cap : Nat} {S : Nat → Bool} {A : Nat → Option Addr} {L C : Nat → Nat} {M : Nat → Int} (hl : ZL w b off n S A L C M) (had : 0 < n → adl = some ⟨b, off, none⟩) (hb : foldL 0 L n ≤ 4294967296) (hn : n ≤ 1099511627776) :
  Calls Tryz.prog 11 #[.slice adl n cap] w fun e w' => ∃ s' ad len cap, e = .returned (.agg #[.bool s', .slice ad len cap]) ∧ Zn w' s' ad len cap (fold gcdI 0 M n) ∧ Below w.heap.size w w' ∧ len ≤ foldL 0 L n := by
 go_enter Tryz.func11, Tryz.ntmps11
 go_wp2_with fail
 have y := zb_new w false none 0 0
 have b0 := below_alloc w (.cells #[.bool false, .slice none 0 0] 26)
 replace hl := hl.below b0
 generalize w.alloc (.cells #[.bool false, .slice none 0 0] 26) = wb at *
 generalize hp : w.heap.size = r at *
 replace hp := hide hp
 go_loopw [3, 4] (fun t i wr => ∃ (k : Nat) (at' : Option Addr) (lt ct : Nat), k ≤ n ∧ i = .int .i64 k ∧ t = .slice at' lt ct ∧ Cn wr at' lt ct (fold gcdI 0 M k) ∧ lt ≤ foldL 0 L k ∧ Below wb.heap.size wb wr) (fun _ i _ => n - (intOf i).toNat)
 case atStart => exact ⟨0, none, 0, 0, Nat.zero_le _, rfl, rfl, cn_nil _, Nat.le_refl _, Below.refl _ _⟩
 case round =>
  obtain ⟨k, at', lt, ct, hk, rfl, rfl, hct, hlt, kr⟩ := hrel
  by_cases hkN : k < n
  ·obtain rfl := had (by omega)
   have q := hl.below kr
   have e1 := q.c1 k hkN
   have hnm := q.nm k hkN
   have hle := hl.le k hkN
   have hmk := foldL_le (l := 0) (L := L) hkN
   have hlb := q.lt
   go_wp2_with fail
   refine (rg_n hct.nm hnm (by omega) (by omega)).mono ?_
   rintro e w2 ⟨ad, len, cap', rfl, hc2, k2, hl2⟩
   go_wp2_with fail
   exact ⟨⟨k + 1, ad, len, cap', by omega, by go_num, rfl, hc2, by show len ≤ foldL 0 L k + L k; omega, grow_step k2 kr⟩, by simp [intOf]; omega⟩
  ·obtain rfl : k = n := by omega
   go_wp2_with fail
   refine (rnorm_n ⟨_, hct.nm, rfl⟩ (by omega)).mono ?_
   rintro e w' ⟨s', ad, len, cap', rfl, hz, hg, hl'⟩
   have y' : ZB w' r false none 0 0 := ZB.below y (grow_step hg kr)
   have y0 := y'.c0
   have y1 := y'.c1
   have y2 := y'.f 0
   have y3 := y'.f 1
   have hB : Below r w w' := b0.trans ((grow_step hg kr).mono (Nat.le_of_lt y.lt))
   go_wp2
   refine bodyPost_ret (results_cell_row rfl _ _ r 26 _ (0, 0) _ rfl (zb_fin y' s' ad len cap') Tryz.underlying26 rfl (by kernel_rfl)) rfl ?_
   exact ⟨s', ad, len, cap', by simp, zb_zn y' hz _ _ _ _, hp.out.symm ▸ (hB.setCell (Nat.le_refl _) _).setCell (Nat.le_refl _) _, by omega⟩
set_option maxRecDepth 100000 in
set_option maxHeartbeats 3200000 in
theorem rlcm_listA {adl : Option Addr} {w : World} {b off n cap : Nat} {S : Nat → Bool} {A : Nat → Option Addr} {L C : Nat → Nat} {M : Nat → Int} (hl : ZL w b off n S A L C M) (had : 0 < n → adl = some ⟨b, off, none⟩) (hb : 3 * n + foldL 2 L n ≤ 536870912) (hn : n ≤ 1099511627776) :
  Calls Tryz.prog 12 #[.slice adl n cap] w fun e w' => ∃ s' ad len cap, e = .returned (.agg #[.bool s', .slice ad len cap]) ∧ Zn w' s' ad len cap (fold lcmI 1 M n) ∧ Below w.heap.size w w' ∧ len ≤ 3 * n + foldL 2 L n := by
 go_enter Tryz.func12, Tryz.ntmps12
 go_wp2_with fail
 have y := zb_new w false none 0 0
 have b0 := below_alloc w (.cells #[.bool false, .slice none 0 0] 26)
 replace hl := hl.below b0
 generalize w.alloc (.cells #[.bool false, .slice none 0 0] 26) = wb at *
 generalize hp : w.heap.size = r at *
 replace hp := hide hp
 refine (rof_n 1 (by decide) (by decide) wb).mono ?_
 rintro e w1 ⟨s0, a0, l0, c0, rfl, hz0, k1, hl0⟩
 have hrb := Nat.le_of_lt y.lt
 replace b0 := b0.trans (k1.mono hrb)
 replace hl := hl.below k1
 replace y := y.below k1
 have t0 := zb_new w1 s0 a0 l0 c0
 have kA := below_alloc w1 (.cells #[.bool s0, .slice a0 l0 c0] 26)
 have zA := hz0.below kA
 have hrl := y.lt
 clear hrb k1 hz0
 go_wp2_with fail
 generalize hwA : w1.alloc (.cells #[.bool s0, .slice a0 l0 c0] 26) = wA at *
 clear hwA
 generalize hpm : w1.heap.size = pm at *
 replace hpm := hide hpm
 go_loopw [4] (fun i wr => ∃ (k : Nat) (s1 : Bool) (a1 : Option Addr) (l1 c1 : Nat), k ≤ n ∧ i = .int .i64 k ∧ ZB wr pm s1 a1 l1 c1 ∧ Zn wr s1 a1 l1 c1 (fold lcmI 1 M k) ∧ 0 < fold lcmI 1 M k ∧ l1 ≤ 3 * k + foldL 2 L k ∧ Below pm w1 wr) (fun i _ => n - (intOf i).toNat)
 case atStart => exact ⟨0, s0, a0, l0, c0, Nat.zero_le _, rfl, t0, zA, Int.zero_lt_one, by simpa [foldL] using hl0, kA⟩
 case round =>
  obtain ⟨k, s1, a1, l1, c1, hk, rfl, t, zg, hpos, hlt, kr⟩ := hrel
  have kr' : Below w1.heap.size w1 wr := hpm.out.symm ▸ kr
  have yr := y.below kr'
  by_cases hkN : k < n
  ·obtain rfl := had (by omega)
   have q := hl.below kr'
   have e0 := q.c0 k hkN
   have e1 := q.c1 k hkN
   have hnm := q.nm k hkN
   have hle := q.le k hkN
   have hmk := foldL_le (l := 2) (L := L) hkN
   have hlb := hl.lt
   have hkb : (k : Int) < n := by omega
   go_wp2_with fail
   refine (rsign_n ⟨M k, hnm, rfl⟩ (by omega)).mono ?_
   rintro e w2 ⟨rfl, k2⟩
   by_cases hM : M k = 0
   ·have hs : cmpI (sg (S k) (M k)) 0 = 0 := by rw [hM]; cases S k <;> rfl
    rw [hs]
    have y2 := yr.below k2
    have d0 := y2.c0
    have d1 := y2.c1
    have d2 := y2.f 0
    have d3 := y2.f 1
    go_wp2_with fail
    refine bodyPost_ret (results_cell_row rfl _ _ r 26 _ (0, 0) _ rfl (zb_fin y2 false none 0 0) Tryz.underlying26 rfl (by kernel_rfl)) rfl ?_
    refine ⟨false, none, 0, 0, by simp, ?_, ?_, by omega⟩
    ·rw [fold_lcm_zero hkN hM]
     exact zb_zn y2 (zn_nil w2) _ _ _ _
    ·exact hp.out.symm ▸ ((((b0.trans (kr.mono (Nat.le_of_lt hrl))).trans (k2.mono (Nat.le_of_lt yr.lt))).setCell (Nat.le_refl _) _).setCell (Nat.le_refl _) _)
   ·have hs : (cmpI (sg (S k) (M k)) 0 == 0) = false := by rw [beq_eq_false_iff_ne]; exact cmpI_sg0 hM
    generalize cmpI (sg (S k) (M k)) 0 = cc at *
    have q2 := q.below k2
    have t2 := t.below k2
    go_wp2_with fail
    refine Code.wp_mono ?_ (rl_reg8 (hpm.out ▸ hlb) (q2.c0 k hkN) (q2.c1 k hkN) t2 (zg.below k2) ⟨M k, q2.nm k hkN, rfl⟩ hle (by omega) (by omega) hkN hpos (by omega))
    rintro e a' W' ⟨rfl, ⟨v21, v22, v23, v24, v25, v26, v27, v28, v29, v30, v31, v32, v33, v34, v35, rfl⟩, ⟨s', a2, l2, c2, t', z', hl'⟩, kW⟩
    rw [← sg_natAbs hnm.nonneg] at z'
    go_wp2_with fail
    refine ⟨⟨k + 1, s', a2, l2, c2, by omega, by go_num, t', z', lcmI_pos hpos (by have := hnm.nonneg; omega), ?_, (kr.trans (k2.mono (Nat.le_of_lt t.lt))).trans kW⟩, by simp [intOf]; omega⟩
    show l2 ≤ 3 * (k + 1) + (foldL 2 L k + L k)
    omega
  ·obtain rfl : k = n := by omega
   have u0 := t.c0
   have u1 := t.c1
   have d0 := yr.c0
   have d1 := yr.c1
   have d2 := yr.f 0
   have d3 := yr.f 1
   go_wp2_with fail
   refine bodyPost_ret (results_cell_row rfl _ _ r 26 _ (0, 0) _ rfl (zb_fin yr s1 a1 l1 c1) Tryz.underlying26 rfl (by kernel_rfl)) rfl ?_
   exact ⟨s1, a1, l1, c1, by simp, zb_zn yr zg _ _ _ _, hp.out.symm ▸ (((b0.trans (kr.mono (Nat.le_of_lt hrl))).setCell (Nat.le_refl _) _).setCell (Nat.le_refl _) _), hlt⟩
end Go.Proofs.YtmlephkmbkiofaaGreatDoor
