/-
 Several texts in one: YO, YP, YQ, YS.
-/
import Derived.Test.YtagjfhipjbpoiaaP20
import Derived.Test.YtagjfhipjbpoiaaP22
import Derived.Test.YtagjfhipjbpoiaaP14
import Derived.Test.YtagjfhipjbpoiaaP18
namespace Go.Proofs.Ytagjfhipjbpoiaa
open Go.RowKit Go.Sort Go.Shelf
open Tm

theorem limbs_bits {xs : List Int} {l : Nat} (hL : Limbs xs) (hl : xs.length = l) : ((bitsL (trim xs) : Int) + 32 - 1) / 32 = (tl xs l : Int) := by
 have hc := canon_trim hL
 have ht := trim_length xs
 rw [hl] at ht
 rw [← ht]
 generalize trim xs = X at *
 unfold bitsL
 by_cases h0 : X.length = 0
 ·rw [if_pos h0, h0]; decide
 ·rw [if_neg h0]
  have hb := lz_bd hc.1 (X.length - 1)
  have hnz : lz X (X.length - 1) ≠ 0 := hc.2 (by omega)
  have h1 := bitLen_spec (lz X (X.length - 1)).toNat (by omega)
  have h2 := bitLen_le32 (lz X (X.length - 1)).toNat (by omega)
  have h3 := (h1.2 (by omega)).1
  generalize Lib.bitLen (lz X (X.length - 1)).toNat = bl at *
  omega

set_option maxRecDepth 100000 in
set_option maxHeartbeats 1600000 in
theorem zlimbs_n {s : Bool} {a : Option Addr} {l c : Nat} {xs : List Int} {w : World} (h : Rd w a l c xs) (hl : l ≤ 1099511627776) :
  Calls Try.prog 65 #[.agg #[.bool s, .slice a l c]] w fun e w' => e = .returned (.int .i64 (tl xs l)) ∧ Below w.heap.size w w' := by
 have HL := hide (limbs_bits h.2.2.2.1 h.1)
 have htl := tl_le xs l
 go_enter Try.func65, Try.ntmps65
 go_wp2_with fail
 have x := zb_new w s a l c
 have b0 := below_alloc w (.cells #[.bool s, .slice a l c] 25)
 replace h := h.below b0
 generalize w.alloc (.cells #[.bool s, .slice a l c] 25) = wb at *
 have u1 := x.c1
 have u0 := x.c0
 go_wp2_with fail
 refine (bits_any h hl).mono ?_
 rintro e w1 ⟨rfl, rfl⟩
 have hb : ((bitsL (trim xs) : Nat) : Int) + 32 - 1 ≤ 32 * tl xs l + 31 := by have := HL.out; omega
 generalize hq : bitsL (trim xs) = q at *
 have HQ : Hid (((q : Int) + 32 - 1) / 32 = (tl xs l : Int)) := HL.out
 clear hq HL
 go_wp2_with fail
 go_ret
 exact ⟨ret_int HQ.out, b0⟩

set_option maxRecDepth 100000 in
set_option maxHeartbeats 1600000 in
theorem rlimbs_n {s : Bool} {a : Option Addr} {l c : Nat} {xs : List Int} {w : World} (h : Rd w a l c xs) (hl : l ≤ 1099511627776) :
  Calls Try.prog 68 #[.agg #[.bool s, .slice a l c]] w fun e w' => e = .returned (.int .i64 (tl xs l)) ∧ Below w.heap.size w w' := by
 have htl := tl_le xs l
 go_enter Try.func68, Try.ntmps68
 go_wp2_with fail
 have x := zb_new w s a l c
 have b0 := below_alloc w (.cells #[.bool s, .slice a l c] 25)
 replace h := h.below b0
 generalize w.alloc (.cells #[.bool s, .slice a l c] 25) = wb at *
 have u1 := x.c1
 have u0 := x.c0
 go_wp2_with fail
 refine (trim_any h (by omega)).mono ?_
 rintro e w1 ⟨rfl, ho, -⟩
 have k1 := ho.1
 go_wp2_with fail
 go_ret
 exact ⟨rfl, b0.trans (k1.mono b0.size)⟩

/-- how many limbs a number has, with a count of steps -/
def lbF : Nat → Nat → Nat
 | 0, _ => 0
 | f + 1, n => if n = 0 then 0 else lbF f (n / 4294967296) + 1
theorem lbF_eq : ∀ (zs : List Int) (f : Nat), Canon zs → (val zs).toNat ≤ f → lbF f (val zs).toNat = zs.length
 | [], 0, _, _ => rfl
 | [], f + 1, _, _ => rfl
 | x :: l, f, h, hf => by
  have hx := h.1 x (by simp)
  have hl : Limbs l := fun z hz => h.1 z (by simp [hz])
  have hcl : Canon l := by
   refine ⟨hl, fun hp => ?_⟩
   have h2 := h.2 (by simp)
   have e : lz (x :: l) ((x :: l).length - 1) = lz l (l.length - 1) := by
    unfold lz
    cases l with
    | nil => simp at hp
    | cons y r => simp [List.getD]
   rwa [e] at h2
  have hv := val_cons x l
  have hn0 : val (x :: l) ≠ 0 := fun e => by
   have := (canon_zero h).1 e
   cases this
  have hl0 := val_nonneg hl
  cases f with
  | zero => omega
  | succ f =>
   unfold lbF
   rw [if_neg (by omega), show (val (x :: l)).toNat / 4294967296 = (val l).toNat by omega, lbF_eq l f hcl (by omega)]
   rfl
/-- how many limbs a number has -/
def lbz (z : Int) : Nat := lbF z.natAbs z.natAbs
theorem lbz_eq {zs : List Int} {z : Int} (h : Canon zs) (hv : val zs = (z.natAbs : Int)) : lbz z = zs.length := by
 unfold lbz
 rw [show z.natAbs = (val zs).toNat by omega]
 exact lbF_eq zs _ h (Nat.le_refl _)
theorem Zm.lbz {w : World} {s : Bool} {a : Option Addr} {l c : Nat} {z : Int} (h : Zm w s a l c z) : ∃ xs, Rd w a l c xs ∧ tl xs l = lbz z := by
 obtain ⟨n, ⟨xs, hr, hv⟩, rfl⟩ := h
 refine ⟨xs, hr, ?_⟩
 have h0 := val_nonneg hr.2.2.2.1
 have e : val (trim xs) = ((sg s n).natAbs : Int) := by rw [val_trim, hv]; cases s <;> simp [sg] <;> omega
 rw [lbz_eq (canon_trim hr.2.2.2.1) e]
 have := hr.1
 have := tl_le xs l
 unfold trim
 rw [List.length_take, hr.1]
 omega
def limbsL (m : Nat) (qs : List (Int × Int)) : Nat := qs.foldl (fun m q => max m (lbz q.2)) m
theorem limbsL_snoc (m : Nat) (qs : List (Int × Int)) (q : Int × Int) : limbsL m (qs ++ [q]) = max (limbsL m qs) (lbz q.2) := by simp [limbsL]

theorem IV.at {w : World} {ad : Option Addr} {n : Nat} {xs : List Int} (h : IV w ad n xs) {t : Nat} (ht : t < n) : ∃ g, ad = some ⟨g, 0, none⟩ ∧ g < w.heap.size ∧ w.cell? ⟨g, t, none⟩ = some (.int .i64 (xs[t]'(by have := h.1; omega))) := by
 obtain ⟨h1, h2⟩ := h
 rcases h2 with h2 | ⟨g, e, hg, h2⟩
 ·omega
 ·exact ⟨g, e, hg, h2 t (by omega)⟩
set_option maxRecDepth 100000 in
set_option maxHeartbeats 1600000 in
theorem ints_t {w : World} {ad : Option Addr} {n cp : Nat} {ad2 : Option Addr} {cp2 : Nat} {xs : List Int} (h : IV w ad n xs) (h2 : IV w ad2 n xs) (hn : n ≤ 536870912) :
  Calls Try.prog 39 #[.slice ad n cp, .slice ad2 n cp2] w fun e w' => e = .returned (.bool true) ∧ Below w.heap.size w w' := by
 go_enter Try.func39, Try.ntmps39
 go_wp2_with fail
 go_loopw [5] (fun i wr => ∃ t : Nat, t ≤ n ∧ i = .int .i64 t ∧ Below w.heap.size w wr) (fun i _ => n - (intOf i).toNat)
 case atStart => exact ⟨0, Nat.zero_le _, rfl, Below.refl _ _⟩
 case round =>
  obtain ⟨t, ht, rfl, kr⟩ := hrel
  by_cases htn : t < n
  ·obtain ⟨g1, rfl, hg1, e1⟩ := (h.below kr).at htn
   obtain ⟨g2, rfl, hg2, e2⟩ := (h2.below kr).at htn
   generalize xs[t]'(by have := h.1; omega) = x at *
   go_wp2_with fail
   go_quiet (fail)
   have k9 := grow_drewN kr nq
   go_wp2_with fail
   exact ⟨⟨t + 1, by omega, by go_num, k9⟩, by simp [intOf]; omega⟩
  ·obtain rfl : t = n := by omega
   go_wp2
   go_ret
   exact ⟨rfl, kr⟩

set_option maxRecDepth 100000 in
set_option maxHeartbeats 1600000 in
theorem rvars_n {w : World} {ad : Option Addr} {n cp : Nat} {s : Bool} {a : Option Addr} {l c : Nat} {ps : List (Int × Int)} {k : Int} {B : Nat} (hP : Pr w ad n ps B) (hz : Zm w s a l c k) (hl : l ≤ B) (hB : B + n ≤ 268435456) :
  Calls Try.prog 40 #[.agg #[.slice ad n cp, .bool s, .slice a l c]] w fun e w' => ∃ ad' n' cp', e = .returned (.slice ad' n' cp') ∧ IV w' ad' n' ((nz (lays [] ps)).map Prod.fst) ∧ n' ≤ n ∧ Below w.heap.size w w' := by
 go_enter Try.func40, Try.ntmps40
 go_wp2_with fail
 have b0 := below_alloc w (.cells #[.slice ad n cp, .bool s, .slice a l c] 27)
 refine (rnorm5_n (hP.below b0) (hz.below b0) hl (by omega) (by omega)).mono ?_
 rintro e w1 ⟨ad1, n1, cp1, s1, a1, l1, c1, rfl, hT, hz1, k1, hn1⟩
 have hP1 := hT.1
 replace k1 := hide (grow_step k1 b0)
 obtain ⟨hn, hP1⟩ := hP1
 obtain ⟨qs, hqs⟩ : ∃ qs, nz (lays [] ps) = qs := ⟨_, rfl⟩
 rw [hqs] at hn hP1
 replace hqs := hide hqs
 clear b0 hP hz hT hz1
 have y := tb_new w1 ad1 n1 cp1 s1 a1 l1 c1
 have k2 := hide (grow_alloc k1.out (.cells #[.slice ad1 n1 cp1, .bool s1, .slice a1 l1 c1] 27))
 obtain ⟨i0, hi, hz0, hz1, hz2⟩ := info_parts infoI
 replace y := hide y
 go_wp2_with fail
 generalize hwy : w1.alloc (.cells #[.slice ad1 n1 cp1, .bool s1, .slice a1 l1 c1] 27) = wy at *
 replace hwy := hide hwy
 have hbw : Below w1.heap.size w1 wy := (hwy.out ▸ below_alloc w1 (.cells #[.slice ad1 n1 cp1, .bool s1, .slice a1 l1 c1] 27) : Below w1.heap.size w1 wy)
 replace hP1 : n1 = 0 ∨ ∃ b off, ad1 = some ⟨b, off, none⟩ ∧ PL wy b off qs (B + n + 1) := hP1.elim .inl fun ⟨b, off, e, h⟩ => .inr ⟨b, off, e, h.below hbw⟩
 clear hbw
 generalize w1.heap.size = q at *
 go_loopw [4, 5] (fun vv i wr => ∃ t : Nat, t ≤ n1 ∧ i = .int .i64 t ∧ wr.ownsRow wy.heap.size 3 1 vv t ((qs.take t).map fun q => .int .i64 q.1) ∧ Below wy.heap.size wy wr) (fun _ i _ => n1 - (intOf i).toNat)
 case atStart => exact ⟨0, Nat.zero_le _, rfl, World.ownsRow_nil _ _ _ _, Below.refl _ _⟩
 case round =>
  obtain ⟨t, ht, rfl, hrow, kr⟩ := hrel
  have yr := y.out.below kr
  have y0 := yr.c0
  by_cases htn : t < n1
  ·rcases hP1 with h | ⟨bp, op, rfl, hP1⟩
   ·omega
   ·obtain ⟨s2, a2, l2, c2, e0, e1, e2, -, -, hv⟩ := (hP1.below kr).2 t (by omega)
    have hps : Hid (qs.take (t + 1) = qs.take t ++ [qs[t]]) := List.take_succ_eq_append_getElem (l := qs) (i := t) (by omega)
    generalize qs[t] = pp at *
    have hbase := hide (show wy.heap.size ≤ wr.heap.size from kr.size)
    go_wp2_with (at_builtin; refine wpList_append_own_at _ rfl _ _ 43 rfl wy.heap.size 3 i0 _ 1 8 Try.underlying43 hi hz0 hz1 hz2 rfl (by decide) _ _ _ rfl (hrow.alloc _) ⟨wr.heap.size, 0, none⟩ 1 1 [.int .i64 pp.1] rfl rfl (by simpa using cell_one_new wr (.int .i64 pp.1) 3) (by simp [Value.oneCell']) (by unfold maxLen; omega) (by omega) (by have := hbase.out; simp; omega) ?_; intro v' w4 hown' hgrow hnil hat')
    have kb := below_alloc wr (.cells #[.int .i64 pp.1] 3)
    have k4 : Below wy.heap.size wy w4 := (grow_step kb kr).grown hgrow (grow_step kb kr).size (fun k e => (hrow.lt k e).1)
    refine ⟨⟨t + 1, by omega, by go_num, ?_, k4⟩, by simp [intOf]; omega⟩
    rw [hps.out, List.map_append]
    exact hown'
  ·obtain rfl : t = n1 := by omega
   rw [List.take_of_length_le (Nat.le_of_eq hn), show (qs.map fun q => Value.int .i64 q.1) = (qs.map Prod.fst).map (Value.int .i64) by rw [List.map_map]; rfl] at hrow
   obtain ⟨ad', cp', rfl, hIV⟩ := row_iv hrow
   clear hrow
   go_wp2
   go_ret
   exact ⟨ad', t, cp', rfl, hqs.out.symm ▸ hIV, hn1, grow_step kr k2.out⟩

set_option maxRecDepth 100000 in
set_option maxHeartbeats 1600000 in
theorem tlimbs_n {w : World} {ad : Option Addr} {n cp : Nat} {s : Bool} {a : Option Addr} {l c : Nat} {ps : List (Int × Int)} {k : Int} {B : Nat} (hP : Pr w ad n ps B) (hz : Zm w s a l c k) (hl : l ≤ B) (hB : B + n ≤ 268435456) :
  Calls Try.prog 37 #[.agg #[.slice ad n cp, .bool s, .slice a l c]] w fun e w' => ∃ qs, e = .returned (.int .i64 (limbsL (lbz k) qs)) ∧ Std qs ∧ (∀ v, csum qs v = csum ps v) ∧ Below w.heap.size w w' := by
 go_enter Try.func37, Try.ntmps37
 go_wp2_with fail
 have x := tb_new w ad n cp s a l c
 have b0 := below_alloc w (.cells #[.slice ad n cp, .bool s, .slice a l c] 27)
 replace hP := hP.below b0
 replace hz := hz.below b0
 generalize w.alloc (.cells #[.slice ad n cp, .bool s, .slice a l c] 27) = wb at *
 generalize hp : w.heap.size = q at *
 replace b0 : Hid (Below w.heap.size w wb) := hp ▸ b0
 replace hp := hide hp
 refine (tnorm_n hP hz hl (by omega)).mono ?_
 rintro e w1 ⟨ad1, n1, cp1, s1, a1, l1, c1, rs, rfl, hTN, hn1, hStd, hcs⟩
 have hT1 := hTN.tw
 have x1 := x.below hTN.below
 have k1 := hide (grow_step hTN.below b0.out)
 generalize rs.map Raw.p = qs at *
 have g1 := tb_set w1 q (.slice ad1 n1 cp1) (.bool s1) (.slice a1 l1 c1)
 have x2 := tb_fin x1 ad1 n1 cp1 s1 a1 l1 c1
 have hT2 := hT1.tb x1 g1
 have k2 := hide (below_grown k1.out g1 (Nat.le_of_eq hp.out))
 have v0 := x1.c0
 have v1 := x1.c1
 have v2 := x1.c2
 have v3 := x1.f 0
 have v4 := x1.f 1
 have v5 := x1.f 2
 clear hTN hP hz hT1 g1 x b0
 go_wp2_with fail
 generalize ((w1.setCell ⟨q, 0, none⟩ (.slice ad1 n1 cp1)).setCell ⟨q, 1, none⟩ (.bool s1)).setCell ⟨q, 2, none⟩ (.slice a1 l1 c1) = w2 at *
 obtain ⟨⟨hn, hP1⟩, hk, hlk⟩ := hT2
 obtain ⟨xk, hrk, htl⟩ := hk.lbz
 refine (zlimbs_n (s := s1) hrk (by omega)).mono ?_
 rintro e w3 ⟨rfl, k3⟩
 rw [htl]
 have hlb : lbz k ≤ 536870912 := by rw [← htl]; have := tl_le xk l1; omega
 clear v0 v1 v2 v3 v4 v5 k1 x1 hrk htl hk
 have x3 := x2.below k3
 have k4 := hide (grow_step k3 k2.out)
 have x30 := x3.c0
 have hP3 := hide (show n1 = 0 ∨ ∃ b off, ad1 = some ⟨b, off, none⟩ ∧ PL w3 b off qs (B + n + 1) from hP1.elim .inl fun ⟨b, off, e, h⟩ => .inr ⟨b, off, e, h.below k3⟩)
 clear k3 k2 hP1
 go_wp2_with fail
 go_loopw [3, 14] (fun m i wr => ∃ t : Nat, t ≤ n1 ∧ i = .int .i64 t ∧ m = .int .i64 (limbsL (lbz k) (qs.take t)) ∧ limbsL (lbz k) (qs.take t) ≤ 536870912 ∧ Below w3.heap.size w3 wr) (fun _ i _ => n1 - (intOf i).toNat)
 case atStart => exact ⟨0, Nat.zero_le _, rfl, rfl, by simpa [limbsL] using hlb, Below.refl _ _⟩
 case round =>
  obtain ⟨t, ht, rfl, rfl, hm, kr⟩ := hrel
  by_cases htn : t < n1
  ·rcases hP3.out with h | ⟨bp, op, rfl, hP1⟩
   ·omega
   ·obtain ⟨s2, a2, l2, c2, e0, e1, e2, hz2, hl2, hv⟩ := (hP1.below kr).2 t (by omega)
    have hps : Hid (qs.take (t + 1) = qs.take t ++ [qs[t]]) := List.take_succ_eq_append_getElem (l := qs) (i := t) (by omega)
    generalize qs[t] = pp at *
    have ka := below_alloc wr (.cells #[.int .i64 pp.1, .bool s2, .slice a2 l2 c2] 62)
    obtain ⟨xk2, hr2, htl2⟩ := (hz2.below ka).lbz
    have kb := hide (grow_step ka kr)
    clear ka
    have hlb2 : lbz pp.2 ≤ 536870912 := by rw [← htl2]; have := tl_le xk2 l2; omega
    have hstep : Hid (limbsL (lbz k) (qs.take (t + 1)) = max (limbsL (lbz k) (qs.take t)) (lbz pp.2)) := (show _ = _ by rw [hps.out, limbsL_snoc])
    generalize limbsL (lbz k) (qs.take t) = mt at *
    go_wp2_with fail
    refine (zlimbs_n (s := s2) hr2 (by omega)).mono ?_
    rintro e w5 ⟨rfl, k5⟩
    rw [htl2]
    have k6 := hide (grow_step k5 kb.out)
    clear k5 kb hr2 htl2
    generalize lbz pp.2 = lb2 at *
    go_wp2_with fail
    refine ⟨⟨t + 1, by omega, by go_num, ?_, by rw [hstep.out]; omega, k6.out⟩, by simp [intOf]; omega⟩
    rw [hstep.out]
    congr 1
    omega
  ·obtain rfl : t = n1 := by omega
   have hall : Hid (limbsL (lbz k) (qs.take t) = limbsL (lbz k) qs) := (show _ = _ by rw [List.take_of_length_le (Nat.le_of_eq hn)])
   generalize limbsL (lbz k) (qs.take t) = mt at *
   go_wp2
   go_ret
   exact ⟨qs, ret_int (by rw [hall.out]), hStd, hcs, grow_step kr k4.out⟩

set_option maxRecDepth 100000 in
set_option maxHeartbeats 1600000 in
theorem rlimbs5_n {w : World} {ad : Option Addr} {n cp : Nat} {s : Bool} {a : Option Addr} {l c : Nat} {ps : List (Int × Int)} {k : Int} {B : Nat} (hP : Pr w ad n ps B) (hz : Zm w s a l c k) (hl : l ≤ B) (hB : B + n ≤ 268435456) :
  Calls Try.prog 41 #[.agg #[.slice ad n cp, .bool s, .slice a l c]] w fun e w' => e = .returned (.int .i64 (limbsL (lbz k) (nz (lays [] ps)))) ∧ Below w.heap.size w w' := by
 go_enter Try.func41, Try.ntmps41
 go_wp2_with fail
 have b0 := below_alloc w (.cells #[.slice ad n cp, .bool s, .slice a l c] 27)
 refine (rnorm5_n (hP.below b0) (hz.below b0) hl (by omega) (by omega)).mono ?_
 rintro e w1 ⟨ad1, n1, cp1, s1, a1, l1, c1, rfl, hT, hz1, k1, hn1⟩
 replace k1 := hide (grow_step k1 b0)
 obtain ⟨qs, hqs⟩ : ∃ qs, nz (lays [] ps) = qs := ⟨_, rfl⟩
 rw [hqs] at hT
 replace hqs := hide hqs
 have y := tb_new w1 ad1 n1 cp1 s1 a1 l1 c1
 have ka := below_alloc w1 (.cells #[.slice ad1 n1 cp1, .bool s1, .slice a1 l1 c1] 27)
 have k2 := hide (grow_step ka k1.out)
 replace hT := hT.below ka
 clear b0 hP hz hz1 ka k1
 obtain ⟨⟨hn, hP1⟩, hk, hlk⟩ := hT
 obtain ⟨xk, hrk, htl⟩ := hk.lbz
 replace y := hide y
 go_wp2_with fail
 replace y := y.out
 generalize w1.alloc (.cells #[.slice ad1 n1 cp1, .bool s1, .slice a1 l1 c1] 27) = w2 at *
 generalize w1.heap.size = q at *
 refine (rlimbs_n (s := s1) hrk (by omega)).mono ?_
 rintro e w3 ⟨rfl, k3⟩
 rw [htl]
 have hlb : lbz k ≤ 536870912 := by rw [← htl]; have := tl_le xk l1; omega
 have x3 := y.below k3
 have k4 := hide (grow_step k3 k2.out)
 have hP3 := hide (show n1 = 0 ∨ ∃ b off, ad1 = some ⟨b, off, none⟩ ∧ PL w3 b off qs (B + n + 1) from hP1.elim .inl fun ⟨b, off, e, h⟩ => .inr ⟨b, off, e, h.below k3⟩)
 clear k3 k2 hP1 hrk htl hk y
 go_wp2_with fail
 go_loopw [4, 5] (fun m i wr => ∃ t : Nat, t ≤ n1 ∧ i = .int .i64 t ∧ m = .int .i64 (limbsL (lbz k) (qs.take t)) ∧ limbsL (lbz k) (qs.take t) ≤ 536870912 ∧ Below w3.heap.size w3 wr) (fun _ i _ => n1 - (intOf i).toNat)
 case atStart => exact ⟨0, Nat.zero_le _, rfl, rfl, by simpa [limbsL] using hlb, Below.refl _ _⟩
 case round =>
  obtain ⟨t, ht, rfl, rfl, hm, kr⟩ := hrel
  have xr := x3.below kr
  have x0 := xr.c0
  by_cases htn : t < n1
  ·rcases hP3.out with h | ⟨bp, op, rfl, hP1⟩
   ·omega
   ·obtain ⟨s2, a2, l2, c2, e0, e1, e2, hz2, hl2, hv⟩ := (hP1.below kr).2 t (by omega)
    have hps : Hid (qs.take (t + 1) = qs.take t ++ [qs[t]]) := List.take_succ_eq_append_getElem (l := qs) (i := t) (by omega)
    generalize qs[t] = pp at *
    obtain ⟨xk2, hr2, htl2⟩ := hz2.lbz
    have hlb2 : lbz pp.2 ≤ 536870912 := by rw [← htl2]; have := tl_le xk2 l2; omega
    have hstep : Hid (limbsL (lbz k) (qs.take (t + 1)) = max (limbsL (lbz k) (qs.take t)) (lbz pp.2)) := (show _ = _ by rw [hps.out, limbsL_snoc])
    generalize limbsL (lbz k) (qs.take t) = mt at *
    go_wp2_with fail
    refine (rlimbs_n (s := s2) hr2 (by omega)).mono ?_
    rintro e w5 ⟨rfl, k5⟩
    rw [htl2]
    have k6 := hide (grow_step k5 kr)
    clear k5 hr2 htl2
    generalize lbz pp.2 = lb2 at *
    by_cases hgt : mt < lb2
    ·go_wp2_with fail
     exact ⟨⟨t + 1, by omega, by go_num, by rw [hstep.out, Nat.max_eq_right (by omega)], by rw [hstep.out]; omega, k6.out⟩, by simp [intOf]; omega⟩
    ·go_wp2_with fail
     exact ⟨⟨t + 1, by omega, by go_num, by rw [hstep.out, Nat.max_eq_left (by omega)], by rw [hstep.out]; omega, k6.out⟩, by simp [intOf]; omega⟩
  ·obtain rfl : t = n1 := by omega
   have hall : Hid (limbsL (lbz k) (qs.take t) = limbsL (lbz k) (nz (lays [] ps))) := (show _ = _ by rw [List.take_of_length_le (Nat.le_of_eq hn), hqs.out])
   generalize limbsL (lbz k) (qs.take t) = mt at *
   go_wp2
   go_ret
   exact ⟨ret_int (by rw [hall.out]), grow_step kr k4.out⟩
end Go.Proofs.Ytagjfhipjbpoiaa

namespace Go.Proofs.Ytagjfhipjbpoiaa
open Go.RowKit Go.Sort Go.Shelf
open Tm

open Classical in
theorem pn_px {w : World} {ad : Option Addr} {n : Nat} {ps : List (Int × Int)} {B : Nat} (h : Pn w ad n ps B) (hS : Std ps) : ∃ X, PX w ad n X B ∧ VX X := by
 obtain ⟨hn, h2⟩ := h
 rcases h2 with h2 | ⟨b, off, e, hlt, h2⟩
 ·exact ⟨(List.range n).map fun _ => (0, false, []), ⟨by simp, .inl h2⟩, fun i hi => by simp at hi; omega⟩
 ·have hx : ∀ i, ∃ x : Int × Bool × List Int, (h : i < ps.length) → x.1 = (ps[i]).1 ∧ okX x ∧ ∃ a l c, w.cell? ⟨b, off + i * 3, none⟩ = some (.int .i64 x.1) ∧ w.cell? ⟨b, off + i * 3 + 1, none⟩ = some (.bool x.2.1) ∧ w.cell? ⟨b, off + i * 3 + 2, none⟩ = some (.slice a l c) ∧ Rd w a l c x.2.2 ∧ l ≤ B ∧ I64 x.1 := fun i => by
   by_cases hi : i < ps.length
   ·obtain ⟨s, a, l, c, e0, e1, e2, hz, hl, hv⟩ := h2 i hi
    obtain ⟨xs, hr, hst, hval⟩ := hz.stands
    refine ⟨((ps[i]).1, s, xs), fun _ => ⟨rfl, ⟨by rw [hr.1]; exact hst, fun h0 => ?_⟩, a, l, c, e0, e1, e2, hr, hl, hv⟩⟩
    exact hS.2 _ (List.getElem_mem hi) (hval.symm.trans (sg_zero.2 h0))
   ·exact ⟨(0, false, []), fun h => absurd h hi⟩
  refine ⟨(List.range n).map fun i => Classical.choose (hx i), ⟨by simp, .inr ⟨b, off, e, hlt, fun i hi => ?_⟩⟩, fun i hi => ?_⟩
  ·rw [gx_range hi]
   exact (Classical.choose_spec (hx i) (by omega)).2.2
  ·have hi' : i < n := by simpa using hi
   rw [gx_range hi', gx_range (by omega)]
   have h3 := Classical.choose_spec (hx i) (by omega)
   refine ⟨h3.2.1, fun h0 => ?_⟩
   have h4 := Classical.choose_spec (hx (i - 1)) (by omega)
   rw [h3.1, h4.1]
   exact List.pairwise_iff_getElem.1 hS.1 (i - 1) i (by omega) (by omega) (by omega)
theorem TN.pn {w w' : World} {ad : Option Addr} {n : Nat} {s : Bool} {a : Option Addr} {l c : Nat} {rs : List Raw} {k : Int} {B : Nat} (h : TN w w' ad n s a l c rs k B) : Pn w' ad n (rs.map Raw.p) B := by
 obtain ⟨w1, h1, h2, ⟨h3, h4⟩, _⟩ := h
 refine ⟨by simpa using h3, ?_⟩
 rcases h4 with ⟨_, h4⟩ | ⟨g, e, hg, hlt, h4⟩
 ·exact .inl h4
 ·refine .inr ⟨g, 0, e, hlt, fun i hi => ?_⟩
  have hi' : i < rs.length := by simpa using hi
  obtain ⟨⟨c0, c1, c2⟩, _, hz, hl, hv⟩ := h4 i hi'
  rw [List.getElem_map, Nat.zero_add]
  exact ⟨_, _, _, _, c0, c1, c2, hz.below h2, hl, hv⟩
end Go.Proofs.Ytagjfhipjbpoiaa

namespace Go.Proofs.Ytagjfhipjbpoiaa
open Go.RowKit Go.Sort Go.Shelf
open Tm

theorem ek6 {wr w' : World} {b0 b1 b2 b3 i0 i1 i2 i3 i4 i5 : Nat} {v0 v1 v2 v3 v4 v5 : Value} (h0 : wr.cell? ⟨b0, i0, none⟩ = some v0) (l0 : b0 < wr.heap.size) (h1 : wr.cell? ⟨b1, i1, none⟩ = some v1) (l1 : b1 < wr.heap.size) (h2 : wr.cell? ⟨b2, i2, none⟩ = some v2) (h3 : wr.cell? ⟨b2, i3, none⟩ = some v3) (l2 : b2 < wr.heap.size) (h4 : wr.cell? ⟨b3, i4, none⟩ = some v4) (h5 : wr.cell? ⟨b3, i5, none⟩ = some v5) (l3 : b3 < wr.heap.size) (k : Below wr.heap.size wr w') :
  w'.cell? ⟨b0, i0, none⟩ = some v0 ∧ w'.cell? ⟨b1, i1, none⟩ = some v1 ∧ w'.cell? ⟨b2, i2, none⟩ = some v2 ∧ w'.cell? ⟨b2, i3, none⟩ = some v3 ∧ w'.cell? ⟨b3, i4, none⟩ = some v4 ∧ w'.cell? ⟨b3, i5, none⟩ = some v5 ∧ Below wr.heap.size wr w' :=
 ⟨(k.cell (p := ⟨b0, i0, none⟩) l0).trans h0, (k.cell (p := ⟨b1, i1, none⟩) l1).trans h1, (k.cell (p := ⟨b2, i2, none⟩) l2).trans h2, (k.cell (p := ⟨b2, i3, none⟩) l2).trans h3, (k.cell (p := ⟨b3, i4, none⟩) l3).trans h4, (k.cell (p := ⟨b3, i5, none⟩) l3).trans h5, k⟩
theorem cmpI_self (a : Int) : cmpI a a = 0 := by unfold cmpI; simp
set_option maxRecDepth 100000 in
set_option maxHeartbeats 6400000 in
theorem rorder5_n {w : World} {ad : Option Addr} {n cp : Nat} {s : Bool} {a : Option Addr} {l c : Nat} {ps : List (Int × Int)} {k : Int} {ad2 : Option Addr} {n2 cp2 : Nat} {s2 : Bool} {a2 : Option Addr} {l2 c2 : Nat} {qs : List (Int × Int)} {k2 : Int} {B : Nat} (hP : Pr w ad n ps B) (hz : Zm w s a l c k) (hl : l ≤ B) (hP2 : Pr w ad2 n2 qs B) (hz2 : Zm w s2 a2 l2 c2 k2) (hl2 : l2 ≤ B) (hB : B + n ≤ 268435456) (hB2 : B + n2 ≤ 268435456) :
  Calls Try.prog 42 #[.agg #[.slice ad n cp, .bool s, .slice a l c], .agg #[.slice ad2 n2 cp2, .bool s2, .slice a2 l2 c2]] w fun e w' => e = .returned (.int .i64 (ordT (nz (lays [] ps)) (nz (lays [] qs)) k k2)) ∧ Below w.heap.size w w' := by
 go_enter Try.func42, Try.ntmps42
 go_wp2_with fail
 have y := tb_new (w.alloc (.cells #[.slice ad n cp, .bool s, .slice a l c] 27)) ad2 n2 cp2 s2 a2 l2 c2
 have b0 : Below w.heap.size w ((w.alloc (.cells #[.slice ad n cp, .bool s, .slice a l c] 27)).alloc (.cells #[.slice ad2 n2 cp2, .bool s2, .slice a2 l2 c2] 27)) := below_alloc' (below_alloc _ _) _
 rw [show (w.alloc (.cells #[.slice ad n cp, .bool s, .slice a l c] 27)).heap.size = w.heap.size + 1 from by simp] at y
 generalize (w.alloc (.cells #[.slice ad n cp, .bool s, .slice a l c] 27)).alloc (.cells #[.slice ad2 n2 cp2, .bool s2, .slice a2 l2 c2] 27) = wb at *
 generalize w.heap.size + 1 = q at *
 refine (rnorm5_n (hP.below b0) (hz.below b0) hl (by omega) (by omega)).mono ?_
 rintro e w1 ⟨ad1, n1, cp1, s1, a1, l1, c1, rfl, hT, -, k1, hn1⟩
 have kx := grow_alloc (grow_step k1 b0) (.cells #[.slice ad1 n1 cp1, .bool s1, .slice a1 l1 c1] 27)
 have x := tb_new w1 ad1 n1 cp1 s1 a1 l1 c1
 have ka := below_alloc w1 (.cells #[.slice ad1 n1 cp1, .bool s1, .slice a1 l1 c1] 27)
 replace hT := hT.below ka
 have y1 := (y.below k1).below ka
 replace hP2 := hP2.below kx
 replace hz2 := hz2.below kx
 replace kx := hide kx
 have y0 := y1.c0
 have yy1 := y1.c1
 have yy2 := y1.c2
 replace x := hide x
 replace hT := hide hT
 clear ka k1 b0 y hP hz
 go_wp2_with fail
 replace x := x.out
 replace hT := hT.out
 generalize w1.alloc (.cells #[.slice ad1 n1 cp1, .bool s1, .slice a1 l1 c1] 27) = wx at *
 generalize w1.heap.size = p at *
 refine (rnorm5_n hP2 hz2 hl2 (by omega) (by omega)).mono ?_
 rintro e w3 ⟨ad3, n3, cp3, s3, a3, l3, c3, rfl, hT3, -, k3, hn3⟩
 have kz := hide (grow_alloc (grow_step k3 kx.out) (.cells #[.slice ad3 n3 cp3, .bool s3, .slice a3 l3 c3] 27))
 have ka := below_alloc w3 (.cells #[.slice ad3 n3 cp3, .bool s3, .slice a3 l3 c3] 27)
 have z := tb_new w3 ad3 n3 cp3 s3 a3 l3 c3
 replace x := (x.below k3).below ka
 replace hT := (hT.below k3).below ka
 replace hT3 := hT3.below ka
 clear ka k3 kx y0 yy1 yy2 y1 hP2 hz2
 replace x := hide x
 replace z := hide z
 replace hT := hide hT
 replace hT3 := hide hT3
 go_wp2_with fail
 replace x := x.out
 replace hT := hT.out
 replace z := z.out
 replace hT3 := hT3.out
 generalize w3.alloc (.cells #[.slice ad3 n3 cp3, .bool s3, .slice a3 l3 c3] 27) = wz at *
 generalize w3.heap.size = r at *
 obtain ⟨us, hus⟩ : ∃ us, nz (lays [] ps) = us := ⟨_, rfl⟩
 obtain ⟨vs, hvs⟩ : ∃ vs, nz (lays [] qs) = vs := ⟨_, rfl⟩
 rw [hus] at hT
 rw [hvs] at hT3
 have hans : Hid (ordT (nz (lays [] ps)) (nz (lays [] qs)) k k2 = ordT us vs k k2) := (show _ = _ by rw [hus, hvs])
 clear hus hvs
 obtain ⟨⟨hu, hU⟩, hk, hlk⟩ := hT
 obtain ⟨⟨hv, hV⟩, hk3, hlk3⟩ := hT3
 go_loopw [7] (fun i wr => ∃ t : Nat, t ≤ n1 ∧ t ≤ n3 ∧ i = .int .i64 t ∧ Hid (ordL us vs = ordL (us.drop t) (vs.drop t)) ∧ Below wz.heap.size wz wr) (fun i _ => n1 - (intOf i).toNat)
 case atStart => exact ⟨0, Nat.zero_le _, Nat.zero_le _, rfl, by show _ = _; simp, Below.refl _ _⟩
 case round =>
  obtain ⟨t, ht, ht3, rfl, hord, kr⟩ := hrel
  have xr := x.below kr
  have zr := z.below kr
  have x0 := xr.c0
  have z0 := zr.c0
  by_cases htn : t < n1 ∧ t < n3
  ·obtain ⟨htn, htn3⟩ := htn
   rcases hU with hU | ⟨b1, o1, rfl, hU⟩
   ·omega
   rcases hV with hV | ⟨b2, o2, rfl, hV⟩
   ·omega
   obtain ⟨s5, a5, l5, c5, e0, e1, e2, hz5, hl5, hv5⟩ := (hU.below kr).2 t (by omega)
   obtain ⟨s6, a6, l6, c6, f0, f1, f2, hz6, hl6, hv6⟩ := (hV.below kr).2 t (by omega)
   have hdrop := hide (ordL_drop (ps := us) (qs := vs) (t := t) (by omega) (by omega))
   generalize us[t] = pp at *
   generalize vs[t] = qq at *
   obtain ⟨pv, pz⟩ := pp
   obtain ⟨qv, qz⟩ := qq
   dsimp only at *
   by_cases hne : pv = qv
   ·subst hne
    have hcz : Hid (ordQ (pv, pz) (pv, qz) = cmpI pz qz) := (show _ = _ by simp [ordQ, cmpI_self])
    go_wp2_with fail
    go_quiet (fail)
    have kq := hide (grow_drewN kr nq)
    have x0' : (wr.drewN nq).cell? ⟨p, 0, none⟩ = _ := x0
    have z0' : (wr.drewN nq).cell? ⟨r, 0, none⟩ = _ := z0
    have e1' : (wr.drewN nq).cell? ⟨b1, o1 + t * 3 + 1, none⟩ = _ := e1
    have e2' : (wr.drewN nq).cell? ⟨b1, o1 + t * 3 + 2, none⟩ = _ := e2
    have f1' : (wr.drewN nq).cell? ⟨b2, o2 + t * 3 + 1, none⟩ = _ := f1
    have f2' : (wr.drewN nq).cell? ⟨b2, o2 + t * 3 + 2, none⟩ = _ := f2
    have g5 := hz5.below (below_drewN _ _ nq)
    have g6 := hz6.below (below_drewN _ _ nq)
    clear x0 z0 e1 e2 f1 f2 e0 f0 hz5 hz6
    have hpl : p < (wr.drewN nq).heap.size := xr.lt
    have hrl : r < (wr.drewN nq).heap.size := zr.lt
    have h1l : b1 < (wr.drewN nq).heap.size := (hU.below kr).1
    have h2l : b2 < (wr.drewN nq).heap.size := (hV.below kr).1
    generalize wr.drewN nq = wq at *
    replace g5 := hide g5
    replace g6 := hide g6
    clear hU hV
    go_wp2_with fail
    go_region_held3 (fun w' => w'.cell? ⟨p, 0, none⟩ = some (.slice (some ⟨b1, o1, none⟩) n1 cp1) ∧ w'.cell? ⟨r, 0, none⟩ = some (.slice (some ⟨b2, o2, none⟩) n3 cp3) ∧ w'.cell? ⟨b1, o1 + t * 3 + 1, none⟩ = some (.bool s5) ∧ w'.cell? ⟨b1, o1 + t * 3 + 2, none⟩ = some (.slice a5 l5 c5) ∧ w'.cell? ⟨b2, o2 + t * 3 + 1, none⟩ = some (.bool s6) ∧ w'.cell? ⟨b2, o2 + t * 3 + 2, none⟩ = some (.slice a6 l6 c6) ∧ Below wq.heap.size wq w')
     ((refine ek6 x0' hpl z0' hrl e1' e2' h1l f1' f2' h2l ?_; (repeat' (first | with_reducible exact Below.refl _ _ | with_reducible assumption | with_reducible refine grow_step (by with_reducible assumption) ?_ | with_reducible refine grow_drew ?_ | with_reducible refine grow_alloc ?_ _ | with_reducible refine grow_drewN ?_ _))))
     ((go_at_call 69; refine (rcmp2_n (g5.out.below (by (repeat' (first | with_reducible exact Below.refl _ _ | with_reducible assumption | with_reducible refine grow_step (by with_reducible assumption) ?_ | with_reducible refine grow_drew ?_ | with_reducible refine grow_alloc ?_ _ | with_reducible refine grow_drewN ?_ _)))) (g6.out.below (by (repeat' (first | with_reducible exact Below.refl _ _ | with_reducible assumption | with_reducible refine grow_step (by with_reducible assumption) ?_ | with_reducible refine grow_drew ?_ | with_reducible refine grow_alloc ?_ _ | with_reducible refine grow_drewN ?_ _)))) (by omega) (by omega)).mono ?_; rintro e w7 ⟨rfl, k7⟩))
    all_goals
     have kf : RowKit.Below wq.heap.size wq w7 := by (repeat' (first | with_reducible exact Below.refl _ _ | with_reducible assumption | (go_split_ands; with_reducible assumption) | with_reducible refine grow_step (by with_reducible assumption) ?_ | with_reducible refine grow_drew ?_ | with_reducible refine grow_alloc ?_ _ | with_reducible refine grow_drewN ?_ _))
     have kg := hide (grow_step kf kq.out)
     by_cases hc0 : cmpI pz qz = 0
     ·have hnext := hide (hord.out.trans (hdrop.out.trans (by rw [if_neg (by rw [hcz.out]; simp [hc0])])))
      rw [hc0]
      go_wp2_with fail
      exact ⟨⟨t + 1, by omega, by omega, by go_num, hnext, kg.out⟩, by simp [intOf]; omega⟩
     ·have hval := hide (hans.out.trans (show ordT us vs k k2 = cmpI pz qz by
       have e1 : ordL us vs = cmpI pz qz := hord.out.trans (hdrop.out.trans (by rw [if_pos (by rw [hcz.out]; exact hc0)]; exact hcz.out))
       unfold ordT
       rw [e1, if_pos hc0]))
      generalize cmpI pz qz = cc at *
      go_wp2
      go_ret
      exact ⟨ret_int hval.out.symm, grow_step kg.out kz.out⟩
   ·have hcz : Hid (ordQ (pv, pz) (qv, qz) = cmpI pv qv ∧ cmpI pv qv ≠ 0) := (by
     have h0 : cmpI pv qv ≠ 0 := by unfold cmpI; split <;> (try split) <;> omega
     exact hide ⟨by simp [ordQ, h0], h0⟩)
    have hval : Hid (ordT us vs k k2 = cmpI pv qv) := (show _ = _ by
     have e1 : ordL us vs = cmpI pv qv := hord.out.trans (hdrop.out.trans (by rw [if_pos (by rw [hcz.out.1]; exact hcz.out.2)]; exact hcz.out.1))
     unfold ordT
     rw [e1, if_pos hcz.out.2])
    by_cases hlt : pv < qv
    ·have hv9 : Hid (ordT (nz (lays [] ps)) (nz (lays [] qs)) k k2 = -1) := (show _ = _ by rw [hans.out, hval.out]; unfold cmpI; rw [if_pos hlt])
     go_wp2_with fail
     go_quiet (fail)
     go_wp2_with fail
     go_quiet (fail)
     go_wp2
     go_ret
     exact ⟨ret_int hv9.out.symm, grow_step ((below_drewN _ _ _).trans (below_drewN _ _ _)) (grow_step kr kz.out)⟩
    ·have hv9 : Hid (ordT (nz (lays [] ps)) (nz (lays [] qs)) k k2 = 1) := (show _ = _ by rw [hans.out, hval.out]; unfold cmpI; rw [if_neg hlt, if_pos (by omega)])
     go_wp2_with fail
     go_quiet (fail)
     go_wp2_with fail
     go_quiet (fail)
     go_wp2
     go_ret
     exact ⟨ret_int hv9.out.symm, grow_step ((below_drewN _ _ _).trans (below_drewN _ _ _)) (grow_step kr kz.out)⟩
  ·have x1 := xr.c1
   have x2 := xr.c2
   have z1 := zr.c1
   have z2 := zr.c2
   have kend := hide (grow_step kr kz.out)
   have hk' := hide (hk.below kr)
   have hk3' := hide (hk3.below kr)
   clear hU hV hk hk3
   by_cases ht1 : t < n1
   ·have ht2 : ¬ t < n3 := fun h => htn ⟨ht1, h⟩
    have hne : n1 ≠ n3 := by omega
    have hval := hide (hans.out.trans (show ordT us vs k k2 = 1 by
     have e1 : ordL us vs = 1 := hord.out.trans (ordL_left (by omega) (by omega))
     unfold ordT
     rw [e1]; simp))
    have hge : ¬ n1 < n3 := by omega
    go_wp2
    go_ret
    exact ⟨ret_int hval.out.symm, kend.out⟩
   ·by_cases ht2 : t < n3
    ·have hne : n1 ≠ n3 := by omega
     have hval := hide (hans.out.trans (show ordT us vs k k2 = -1 by
      have e1 : ordL us vs = -1 := hord.out.trans (ordL_right (by omega) (by omega))
      unfold ordT
      rw [e1]; simp))
     have hlt : n1 < n3 := by omega
     go_wp2
     go_ret
     exact ⟨ret_int hval.out.symm, kend.out⟩
    ·obtain rfl : n1 = n3 := by omega
     have hval := hide (hans.out.trans (show ordT us vs k k2 = cmpI k k2 by
      have e1 : ordL us vs = 0 := hord.out.trans (ordL_both (by omega) (by omega))
      unfold ordT
      rw [e1]; simp))
     go_wp2_with fail
     refine (rcmp2_n hk'.out hk3'.out (by omega) (by omega)).mono ?_
     rintro e w7 ⟨rfl, k7⟩
     replace k7 := hide (grow_step k7 kend.out)
     go_wp2
     go_ret
     exact ⟨ret_int hval.out.symm, k7.out⟩
end Go.Proofs.Ytagjfhipjbpoiaa

namespace Go.Proofs.Ytagjfhipjbpoiaa
open Go.RowKit Go.Sort Go.Shelf
open Tm

theorem std_lays (ps : List (Int × Int)) : Std (nz (lays [] ps)) := std_nz (rise_lays ps (by simp [Rise]))
theorem csum_nzl (ps : List (Int × Int)) (v : Int) : csum (nz (lays [] ps)) v = csum ps v := by rw [csum_nz, csum_lays]; simp [csum]
theorem lays_eq {ps qs : List (Int × Int)} (h : Std qs) (hc : ∀ v, csum qs v = csum ps v) : qs = nz (lays [] ps) := std_unique h (std_lays ps) fun v => (hc v).trans (csum_nzl ps v).symm
theorem Pn.tb {w w' : World} {p : Nat} {ad0 : Option Addr} {n0 cp0 : Nat} {s0 : Bool} {a0 : Option Addr} {l0 c0 : Nat} {ad : Option Addr} {n : Nat} {ps : List (Int × Int)} {B : Nat} (h : Pn w ad n ps B) (y : TB w p ad0 n0 cp0 s0 a0 l0 c0) (hg : w.grownBy w' (some p)) : Pn w' ad n ps B := by
 refine ⟨h.1, ?_⟩
 rcases h.2 with h2 | ⟨b, off, e, hb, h2⟩
 ·exact .inl h2
 ·by_cases h0 : ps.length = 0
  ·exact .inl (h.1.symm.trans h0)
  ·refine .inr ⟨b, off, e, Nat.lt_of_lt_of_le hb hg.size, fun i hi => ?_⟩
   obtain ⟨s, a, l, c, e0, e1, e2, hz, hl⟩ := h2 i hi
   have hne : b ≠ p := by
    intro e
    subst e
    rw [cell_of_row w b _ _ _ (0, 0) y] at e0
    match hk : off + i * 3, e0 with
    | 0, e0 => simp at e0
    | 1, e0 => simp at e0
    | 2, e0 => simp at e0
    | k + 3, e0 => simp at e0
   have eb : w'.heap[b]? = w.heap[b]? := hg.block b hb (by simpa using hne)
   exact ⟨s, a, l, c, (World.cell?_of_block (a := ⟨b, off + i * 3, none⟩) eb).trans e0, (World.cell?_of_block (a := ⟨b, off + i * 3 + 1, none⟩) eb).trans e1, (World.cell?_of_block (a := ⟨b, off + i * 3 + 2, none⟩) eb).trans e2, hz.grownU hg (tb_noU y), hl⟩
theorem ordL_self (ps : List (Int × Int)) : ordL ps ps = 0 := by
 induction ps with
 | nil => rfl
 | cons p ps ih => simp [ordL, ordQ, cmpI_self, ih]
theorem ordT_self (ps : List (Int × Int)) (k : Int) : ordT ps ps k k = 0 := by simp [ordT, ordL_self, cmpI_self]

set_option maxRecDepth 100000 in
set_option maxHeartbeats 3200000 in
theorem same5_t {w : World} {ad : Option Addr} {n cp : Nat} {s : Bool} {a : Option Addr} {l c : Nat} {ps : List (Int × Int)} {k : Int} {ad2 : Option Addr} {n2 cp2 : Nat} {s2 : Bool} {a2 : Option Addr} {l2 c2 : Nat} {B : Nat} (hS : Std ps) (hP : Pn w ad n ps B) (hz : Zn w s a l c k) (hl : l ≤ B) (hP2 : Pn w ad2 n2 ps B) (hz2 : Zn w s2 a2 l2 c2 k) (hl2 : l2 ≤ B) (hB : B + n ≤ 268435456) (hB2 : B + n2 ≤ 268435456) :
  Calls Try.prog 16 #[.agg #[.slice ad n cp, .bool s, .slice a l c], .agg #[.slice ad2 n2 cp2, .bool s2, .slice a2 l2 c2]] w fun e w' => e = .returned (.bool true) ∧ Below w.heap.size w w' := by
 go_enter Try.func16, Try.ntmps16
 go_wp2_with fail
 have x := (tb_new w ad n cp s a l c).below (below_alloc _ (.cells #[.slice ad2 n2 cp2, .bool s2, .slice a2 l2 c2] 27))
 have y := tb_new (w.alloc (.cells #[.slice ad n cp, .bool s, .slice a l c] 27)) ad2 n2 cp2 s2 a2 l2 c2
 have b0 : Below w.heap.size w ((w.alloc (.cells #[.slice ad n cp, .bool s, .slice a l c] 27)).alloc (.cells #[.slice ad2 n2 cp2, .bool s2, .slice a2 l2 c2] 27)) := below_alloc' (below_alloc _ _) _
 rw [show (w.alloc (.cells #[.slice ad n cp, .bool s, .slice a l c] 27)).heap.size = w.heap.size + 1 from by simp] at y
 generalize (w.alloc (.cells #[.slice ad n cp, .bool s, .slice a l c] 27)).alloc (.cells #[.slice ad2 n2 cp2, .bool s2, .slice a2 l2 c2] 27) = wb at *
 replace hP := hP.below b0
 replace hz := hz.below b0
 replace hP2 := hP2.below b0
 replace hz2 := hz2.below b0
 generalize hp : w.heap.size = p at *
 replace b0 : Hid (Below w.heap.size w wb) := hp ▸ b0
 replace hp := hide hp
 generalize p + 1 = q at *
 obtain ⟨X, hX, hVX⟩ := pn_px hP hS
 obtain ⟨Y, hY, hVY⟩ := pn_px hP2 hS
 obtain ⟨xs, hr, hst, -⟩ := hz.stands
 obtain ⟨ys, hr2, hst2, -⟩ := hz2.stands
 replace hVX := hide hVX
 replace hVY := hide hVY
 refine (rvalid5_n hX hr hl (by omega) (by omega)).mono ?_
 rintro e w1 ⟨b1, rfl, hb1, k1⟩
 obtain rfl : b1 = true := hb1.2 ⟨hVX.out, hst⟩
 clear hb1
 replace k1 := hide k1
 have y0 := (y.below k1.out).c0
 have y1 := (y.below k1.out).c1
 have y2 := (y.below k1.out).c2
 go_wp2_with fail
 refine (rvalid5_n (hY.below k1.out) (hr2.below k1.out) hl2 (by omega) (by omega)).mono ?_
 rintro e w2 ⟨b2, rfl, hb2, k2⟩
 obtain rfl : b2 = true := hb2.2 ⟨hVY.out, hst2⟩
 clear hb2 y0 y1 y2
 replace k2 := hide (grow_step k2 k1.out)
 clear k1
 have x0 := (x.below k2.out).c0
 have x1 := (x.below k2.out).c1
 have x2 := (x.below k2.out).c2
 have y0 := (y.below k2.out).c0
 have y1 := (y.below k2.out).c1
 have y2 := (y.below k2.out).c2
 go_wp2_with fail
 refine (rorder5_n (hP.pr.below k2.out) (hz.zm.below k2.out) hl (hP2.pr.below k2.out) (hz2.zm.below k2.out) hl2 hB hB2).mono ?_
 rintro e w3 ⟨rfl, k3⟩
 rw [ordT_self]
 have kf : Hid (Below w.heap.size w w3) := b0.out.trans ((grow_step k3 k2.out).mono b0.out.size)
 clear k3
 go_wp2
 go_ret
 exact ⟨rfl, kf.out⟩

set_option maxRecDepth 100000 in
set_option maxHeartbeats 1600000 in
theorem rconst5_n {w : World} {s : Bool} {a : Option Addr} {l c : Nat} {k : Int} (hz : Zm w s a l c k) (hl : l ≤ 1099511627776) :
  Calls Try.prog 18 #[.agg #[.bool s, .slice a l c]] w fun e w' => ∃ s' a' l' c', e = .returned (.agg #[.slice none 0 0, .bool s', .slice a' l' c']) ∧ Zn w' s' a' l' c' k ∧ l' ≤ l ∧ Below w.heap.size w w' := by
 go_enter Try.func18, Try.ntmps18
 go_wp2_with fail
 have y := tb_new (w.alloc (.cells #[.bool s, .slice a l c] 25)) none 0 0 false none 0 0
 have b0 : Below w.heap.size w ((w.alloc (.cells #[.bool s, .slice a l c] 25)).alloc (.cells #[.slice none 0 0, .bool false, .slice none 0 0] 27)) := below_alloc' (below_alloc _ _) _
 rw [show (w.alloc (.cells #[.bool s, .slice a l c] 25)).heap.size = w.heap.size + 1 from by simp] at y
 generalize (w.alloc (.cells #[.bool s, .slice a l c] 25)).alloc (.cells #[.slice none 0 0, .bool false, .slice none 0 0] 27) = wb at *
 have hr : w.heap.size ≤ w.heap.size + 1 := by omega
 generalize w.heap.size + 1 = r at *
 refine (rnorm_n (hz.below b0) hl).mono ?_
 rintro e w2 ⟨s', a', l', c', rfl, hz2, k2, hl2⟩
 have y' := y.below k2
 have y0 := y'.c0
 have y1 := y'.c1
 have y2 := y'.c2
 have y3 := y'.f 0
 have y4 := y'.f 1
 have y5 := y'.f 2
 have g := tb_set w2 r (.slice none 0 0) (.bool s') (.slice a' l' c')
 have hz3 := hide (hz2.grownU g (tb_noU y'))
 have k3 := hide (below_grown (grow_step k2 b0) g hr)
 clear b0 k2 g
 go_wp2
 refine bodyPost_ret (results_cell_row rfl _ _ r 27 _ (0, 0) _ rfl (tb_fin y' none 0 0 s' a' l' c') Try.underlying27 rfl (by kernel_rfl)) rfl ?_
 exact ⟨s', a', l', c', by simp, hz3.out, hl2, k3.out⟩

set_option maxRecDepth 100000 in
set_option maxHeartbeats 1600000 in
theorem rvar5_n {w : World} {v : Int} (hv : I64 v) :
  Calls Try.prog 19 #[.int .i64 v] w fun e w' => ∃ ad' cp', e = .returned (.agg #[.slice ad' 1 cp', .bool false, .slice none 0 0]) ∧ Pn w' ad' 1 [(v, 1)] 2 ∧ Below w.heap.size w w' := by
 go_enter Try.func19, Try.ntmps19
 go_wp2_with fail
 have y := tb_new w none 0 0 false none 0 0
 have b0 : Below w.heap.size w (w.alloc (.cells #[.slice none 0 0, .bool false, .slice none 0 0] 27)) := below_alloc _ _
 generalize w.alloc (.cells #[.slice none 0 0, .bool false, .slice none 0 0] 27) = wb at *
 generalize hr : w.heap.size = r at *
 replace b0 : Below w.heap.size w wb := hr ▸ b0
 replace hr := hide hr
 refine (rof_n 1 (by decide) (by decide) wb).mono ?_
 rintro e w2 ⟨s', a', l', c', rfl, hz2, k2, hl2⟩
 have x3 := pb_new w2 v s' a' l' c'
 have k3 := below_alloc w2 (.cells #[.int .i64 v, .bool s', .slice a' l' c'] 62)
 have y' := (y.below k2).below k3
 have y0 := y'.c0
 have y1 := y'.c1
 have y2 := y'.c2
 have y3 := y'.f 0
 have y4 := y'.f 1
 have y5 := y'.f 2
 have g := tb_set (w2.alloc (.cells #[.int .i64 v, .bool s', .slice a' l' c'] 62)) r (.slice (some ⟨w2.heap.size, 0, none⟩) 1 1) (.bool false) (.slice none 0 0)
 have hP : Pn (w2.alloc (.cells #[.int .i64 v, .bool s', .slice a' l' c'] 62)) (some ⟨w2.heap.size, 0, none⟩) 1 [(v, 1)] 2 := by
  refine ⟨rfl, .inr ⟨_, 0, rfl, x3.lt, fun i hi => ?_⟩⟩
  obtain rfl : i = 0 := by simp at hi; omega
  exact ⟨s', a', l', c', x3.c0, x3.c1, x3.c2, hz2.below k3, by omega, hv⟩
 have hP2 := hide (hP.tb y' g)
 have k4 := hide (below_grown (grow_step k3 (grow_step k2 b0)) g (Nat.le_of_eq hr.out))
 clear b0 k2 k3 hP x3 g
 go_wp2
 refine bodyPost_ret (results_cell_row rfl _ _ r 27 _ (0, 0) _ rfl (tb_fin y' (some ⟨w2.heap.size, 0, none⟩) 1 1 false none 0 0) Try.underlying27 rfl (by kernel_rfl)) rfl ?_
 exact ⟨some ⟨w2.heap.size, 0, none⟩, 1, by simp, hP2.out, k4.out⟩
end Go.Proofs.Ytagjfhipjbpoiaa
