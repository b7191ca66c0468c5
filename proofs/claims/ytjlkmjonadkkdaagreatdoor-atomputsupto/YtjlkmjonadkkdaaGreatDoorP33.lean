/-
 Several texts in one: BG, LAtomPuts.
-/
import Derived.Test.YtjlkmjonadkkdaaGreatDoorP32
import Derived.Test.YtjlkmjonadkkdaaGreatDoorP30
import Derived.Test.YtjlkmjonadkkdaaGreatDoorP17
namespace Go.Proofs.YtjlkmjonadkkdaaGreatDoor
open Go.RowKit Go.Sort Go.Shelf
open Tm At

theorem TN.new {w w' : World} {ad : Option Addr} {n : Nat} {s : Bool} {a : Option Addr} {l c : Nat} {rs : List Raw} {k : Int} {B : Nat} (h : TN w w' ad n s a l c rs k B) : ∀ b off, ad = some ⟨b, off, none⟩ → w.heap.size ≤ b := by
 intro b off e
 obtain ⟨w1, h1, h2, ⟨h3, h4⟩, _⟩ := h
 rcases h4 with ⟨h5, _⟩ | ⟨g, h5, hg, _⟩
 ·rw [h5] at e; cases e
 ·rw [h5] at e
  simp at e
  have := h1.size
  omega

/-- what Put answers -/
def PT (w : World) (e : Ending) (f : Atm ⊕ Int) (v : Int) (us : List (Int × Int)) (uk : Int) (B B0 : Nat) : Prop := match f with
 | .inl f => ∃ rs f', Std rs ∧ (∀ u, csum rs u = csum (wo v f.ps ++ scl (csum f.ps v) us) u) ∧ formA f.kind f.d rs (f.k + csum f.ps v * uk) = .inl f' ∧ AW w e f' B B0
 | .inr _ => A0v e
theorem tb3_put {w : World} {p : Nat} {k0 : Int} {sd1 : Bool} {ad1 : Option Addr} {ld1 cd1 : Nat} {ap0 : Option Addr} {np0 cp0 : Nat} {sk0 : Bool} {ak0 : Option Addr} {lk0 ck0 : Nat} (x : AB w p k0 sd1 ad1 ld1 cd1 ap0 np0 cp0 sk0 ak0 lk0 ck0) (ap1 : Option Addr) (np1 cp1 : Nat) (sk1 : Bool) (ak1 : Option Addr) (lk1 ck1 : Nat) :
  w.grownBy (((w.setCell ⟨p, 3, none⟩ (.slice ap1 np1 cp1)).setCell ⟨p, 4, none⟩ (.bool sk1)).setCell ⟨p, 5, none⟩ (.slice ak1 lk1 ck1)) (some p) ∧ AB (((w.setCell ⟨p, 3, none⟩ (.slice ap1 np1 cp1)).setCell ⟨p, 4, none⟩ (.bool sk1)).setCell ⟨p, 5, none⟩ (.slice ak1 lk1 ck1)) p k0 sd1 ad1 ld1 cd1 ap1 np1 cp1 sk1 ak1 lk1 ck1 :=
 ⟨gb_trans (gb_trans (gb_set _ _ _ _) (gb_set _ _ _ _)) (gb_set _ _ _ _), heap_setCell_same _ p 5 _ _ _ (heap_setCell_same _ p 4 _ _ _ (heap_setCell_same _ p 3 _ _ _ x))⟩

set_option maxRecDepth 100000 in
set_option maxHeartbeats 6400000 in
theorem aput_n {w : World} {kd : Int} {sd : Bool} {ad : Option Addr} {ld cd : Nat} {ap : Option Addr} {np cp : Nat} {sk : Bool} {ak : Option Addr} {lk ck : Nat} {d k : Int} {ps : List (Int × Int)} {v : Int} {apu : Option Addr} {nu cpu : Nat} {su : Bool} {au : Option Addr} {lu cu : Nat} {us : List (Int × Int)} {uk : Int} {B : Nat}
  (hd : Zm w sd ad ld cd d) (hld : ld ≤ B) (hP : Pr w ap np ps B) (hk : Zm w sk ak lk ck k) (hlk : lk ≤ B) (hv : I64 v) (hPu : Pr w apu nu us B) (hku : Zm w su au lu cu uk) (hlu : lu ≤ B) (hn : np + nu ≤ 262144) (hB : 2 * B + 6 * (np + nu) + 128 ≤ 4194000) :
  Calls Tryz.prog 23 #[.agg #[.int .i64 kd, .bool sd, .slice ad ld cd, .slice ap np cp, .bool sk, .slice ak lk ck], .int .i64 v, .agg #[.slice apu nu cpu, .bool su, .slice au lu cu]] w fun e w' => ∃ qs, Std qs ∧ (∀ v, csum qs v = csum ps v) ∧ PT w' e (formA kd d qs k) v us uk (2 * B + 6 * (np + nu) + 128) w.heap.size ∧ Below w.heap.size w w' := by
 go_enter Tryz.func23, Tryz.ntmps23
 go_wp2_with fail
 have x := ((AB.new w kd sd ad ld cd ap np cp sk ak lk ck).below (below_alloc _ (.cells #[.slice apu nu cpu, .bool su, .slice au lu cu] 27))).below (below_alloc _ (.cells #[.int .i64 0, .bool false, .slice none 0 0, .slice none 0 0, .bool false, .slice none 0 0] 29))
 have t := (tb_new (w.alloc (.cells #[.int .i64 kd, .bool sd, .slice ad ld cd, .slice ap np cp, .bool sk, .slice ak lk ck] 29)) apu nu cpu su au lu cu).below (below_alloc _ (.cells #[.int .i64 0, .bool false, .slice none 0 0, .slice none 0 0, .bool false, .slice none 0 0] 29))
 have y := AB.new ((w.alloc (.cells #[.int .i64 kd, .bool sd, .slice ad ld cd, .slice ap np cp, .bool sk, .slice ak lk ck] 29)).alloc (.cells #[.slice apu nu cpu, .bool su, .slice au lu cu] 27)) 0 false none 0 0 none 0 0 false none 0 0
 rw [show (w.alloc (.cells #[.int .i64 kd, .bool sd, .slice ad ld cd, .slice ap np cp, .bool sk, .slice ak lk ck] 29)).heap.size = w.heap.size + 1 from by simp] at t
 rw [show ((w.alloc (.cells #[.int .i64 kd, .bool sd, .slice ad ld cd, .slice ap np cp, .bool sk, .slice ak lk ck] 29)).alloc (.cells #[.slice apu nu cpu, .bool su, .slice au lu cu] 27)).heap.size = w.heap.size + 1 + 1 from by simp] at y
 have b0 : Below w.heap.size w (((w.alloc (.cells #[.int .i64 kd, .bool sd, .slice ad ld cd, .slice ap np cp, .bool sk, .slice ak lk ck] 29)).alloc (.cells #[.slice apu nu cpu, .bool su, .slice au lu cu] 27)).alloc (.cells #[.int .i64 0, .bool false, .slice none 0 0, .slice none 0 0, .bool false, .slice none 0 0] 29)) := below_alloc' (below_alloc' (below_alloc _ _) _) _
 generalize ((w.alloc (.cells #[.int .i64 kd, .bool sd, .slice ad ld cd, .slice ap np cp, .bool sk, .slice ak lk ck] 29)).alloc (.cells #[.slice apu nu cpu, .bool su, .slice au lu cu] 27)).alloc (.cells #[.int .i64 0, .bool false, .slice none 0 0, .slice none 0 0, .bool false, .slice none 0 0] 29) = wb at *
 have hPu0 := hide hPu
 have hku0 := hide hku
 replace hd := hd.below b0
 replace hP := hP.below b0
 replace hk := hk.below b0
 clear hPu hku
 have hpq : w.heap.size < w.heap.size + 1 := by omega
 have hqr : w.heap.size + 1 < w.heap.size + 1 + 1 := by omega
 generalize w.heap.size + 1 + 1 = r at *
 generalize w.heap.size + 1 = q at *
 generalize hp : w.heap.size = p at *
 replace b0 : Hid (Below w.heap.size w wb) := hp ▸ b0
 replace hp := hide hp
 have hnps := hP.1
 refine (anorm_n hd hld hP hk hlk (by omega) (by omega)).mono ?_
 rintro e w1 ⟨qs, hS, hc, hA, k1⟩
 have hrb := y.lt
 replace x := x.below k1
 replace y := y.below k1
 replace t := t.below k1
 have kk := hide (grow_step k1 b0.out)
 clear hd hP hk k1
 have hpl := x.lt
 have hql := t.lt
 have hrl := y.lt
 have hne1 : ¬ r = p := by omega
 have hne2 : ¬ p = r := by omega
 have hne3 : ¬ q = p := by omega
 have hne4 : ¬ p = q := by omega
 have hne5 : ¬ q = r := by omega
 have hne6 : ¬ r = q := by omega
 have hwp : w.heap.size ≤ p := by have := hp.out; omega
 have hwr : w.heap.size ≤ r := by omega
 cases hf : formA kd d qs k with
 | inr er =>
  rw [hf] at hA
  have her := formA_er hf
  have he : _ = _ := hA
  subst he
  have g6 := ab_set w1 p (.int .i64 0) (.bool false) (.slice none 0 0) (.slice none 0 0) (.bool false) (.slice none 0 0)
  have y2 := y.neq g6 (by omega)
  have kf := below_grown kk.out g6 hwp
  have hres : Hid (∃ qs, Std qs ∧ (∀ v, csum qs v = csum ps v) ∧ ∀ w', PT w' (.returned (.agg #[.int .i64 0, .bool false, .slice none 0 0, .slice none 0 0, .bool false, .slice none 0 0])) (formA kd d qs k) v us uk (2 * B + 6 * (np + nu) + 128) w.heap.size) := ⟨qs, hS, hc, fun w' => by rw [hf]; rfl⟩
  have HH := hide (And.intro y2 kf)
  have e0 := x.c0
  have e1 := x.c1
  have e2 := x.c2
  have e3 := x.c3
  have e4 := x.c4
  have e5 := x.c5
  have f0 := x.f 0
  have f1 := x.f 1
  have f2 := x.f 2
  have f3 := x.f 3
  have f4 := x.f 4
  have f5 := x.f 5
  have g0 := y.c0
  have g1 := y.c1
  have g2 := y.c2
  have g3 := y.c3
  have g4 := y.c4
  have g5 := y.c5
  have h0 := y.f 0
  have h1 := y.f 1
  have h2 := y.f 2
  have h3 := y.f 3
  have h4 := y.f 4
  have h5 := y.f 5
  clear hf hS hc hA kk g6 y2 kf x y t
  rcases her with rfl | rfl
  ·go_wp2
   refine bodyPost_ret (results_cell_row rfl _ _ r 29 _ (0, 0) _ rfl (ab_fin HH.out.1 0 false none 0 0 none 0 0 false none 0 0) Tryz.underlying29 rfl (by kernel_rfl)) rfl ?_
   obtain ⟨q, h1, h2, h3⟩ := hres.out
   exact ⟨q, h1, h2, by simpa using h3 _, below_grown HH.out.2 (ab_set _ _ _ _ _ _ _ _) hwr⟩
  ·go_wp2
   refine bodyPost_ret (results_cell_row rfl _ _ r 29 _ (0, 0) _ rfl (ab_fin HH.out.1 0 false none 0 0 none 0 0 false none 0 0) Tryz.underlying29 rfl (by kernel_rfl)) rfl ?_
   obtain ⟨q, h1, h2, h3⟩ := hres.out
   exact ⟨q, h1, h2, by simpa using h3 _, below_grown HH.out.2 (ab_set _ _ _ _ _ _ _ _) hwr⟩
 | inl f =>
  rw [hf] at hA
  have hfit := formA_fit hS hf
  have hlen : f.ps.length ≤ np := by have h1 := (formA_prt hS hf).1; have h2 := std_len hS hc; omega
  have hform := fun qs k => hfit.form qs k
  obtain ⟨fk, fd, fps, fkk⟩ := f
  obtain ⟨sd1, ad1, ld1, cd1, ap1, np1, cp1, sk1, ak1, lk1, ck1, rfl, hz1, hlz1, hPn1, hnp1, hk1, hlk1, hnew1⟩ := hA
  dsimp only at hz1 hPn1 hk1 hlen hform
  have hnp2 : np1 ≤ np := by have := hPn1.1; omega
  have hres : Hid (∀ e w' rs f', Std rs → (∀ u, csum rs u = csum (wo v fps ++ scl (csum fps v) us) u) → formA fk fd rs (fkk + csum fps v * uk) = .inl f' → AW w' e f' (2 * B + 6 * (np + nu) + 128) w.heap.size → ∃ qs, Std qs ∧ (∀ v, csum qs v = csum ps v) ∧ PT w' e (formA kd d qs k) v us uk (2 * B + 6 * (np + nu) + 128) w.heap.size) := fun e w' rs f' h1 h2 h3 h4 => ⟨qs, hS, hc, by rw [hf]; exact ⟨rs, f', h1, h2, h3, h4⟩⟩
  have hbp : ∀ b off, ap1 = some ⟨b, off, none⟩ → b ≠ p := fun b off e => by have h1 := hnew1 b off e; omega
  obtain ⟨g6, x2, hz2, hP2, hk2⟩ := ab_put x hz1 hPn1 hk1 hbp fk cp1
  have y2 := y.neq g6 (by omega)
  have t2 := t.neq g6 (by omega)
  have kf := below_grown kk.out g6 hwp
  have u0 := t.c0
  have u1 := t.c1
  have u2 := t.c2
  have HH := hide (And.intro x2 (And.intro y2 (And.intro t2 (And.intro hz2 (And.intro hP2 (And.intro hk2 kf))))))
  replace hform := hide hform
  have e0 := x.c0
  have e1 := x.c1
  have e2 := x.c2
  have e3 := x.c3
  have e4 := x.c4
  have e5 := x.c5
  have f0 := x.f 0
  have f1 := x.f 1
  have f2 := x.f 2
  have f3 := x.f 3
  have f4 := x.f 4
  have f5 := x.f 5
  clear hf hS hc kk g6 y2 kf x y t t2 x2 hz2 hP2 hk2 hz1 hPn1 hk1 hnew1 hbp hfit
  go_wp2_with fail
  obtain ⟨x2, y2, t2, hz2, hP2, hk2, kf⟩ := HH.out
  clear HH e0 e1 e2 e3 e4 e5 f0 f1 f2 f3 f4 f5 u0 u1 u2
  generalize ((((((w1.setCell ⟨p, 0, none⟩ (.int .i64 fk)).setCell ⟨p, 1, none⟩ (.bool sd1)).setCell ⟨p, 2, none⟩ (.slice ad1 ld1 cd1)).setCell ⟨p, 3, none⟩ (.slice ap1 np1 cp1)).setCell ⟨p, 4, none⟩ (.bool sk1)).setCell ⟨p, 5, none⟩ (.slice ak1 lk1 ck1)) = w2 at *
  refine (tput_n (B := B + np + 16) hv hP2.pr hk2.zm hlk1 ((hPu0.out.below kf).mono (by omega)) (hku0.out.below kf) (by omega) (by omega)).mono ?_
  rintro e w3 ⟨ad3, n3, cp3, s3, a3, l3, c3, rs, rfl, hT, hn3, hStd, hcs⟩
  have k3 := hT.below
  have hs2 := x2.lt
  have hs3 := y2.lt
  have hnewT := hT.new
  have x3 := x2.below k3
  have y3 := y2.below k3
  obtain ⟨g3, x4⟩ := tb3_put x3 ad3 n3 cp3 s3 a3 l3 c3
  have hU := ab_noU x3
  have hz4 := (hz2.below k3).grownU g3 hU
  have hP4 := hT.pn.away (fun b off e => by have h9 := hnewT b off e; omega) g3 hU
  have hk4 := hT.zn.grownU g3 hU
  have hl4 := hT.le
  have y4 := y3.neq g3 (by omega)
  have kf4 := below_grown (grow_step k3 kf) g3 hwp
  have e0 := x3.c0
  have e1 := x3.c1
  have e2 := x3.c2
  have e3 := x3.c3
  have e4 := x3.c4
  have e5 := x3.c5
  have f3 := x3.f 3
  have f4 := x3.f 4
  have f5 := x3.f 5
  have HH := hide (And.intro x4 (And.intro y4 (And.intro hz4 (And.intro hP4 (And.intro hk4 kf4)))))
  replace hStd := hide hStd
  replace hcs := hide hcs
  clear x2 y2 t2 hz2 hP2 hk2 kf hT k3 hnewT x3 y3 g3 x4 hU hz4 hP4 hk4 y4 kf4
  go_wp2_with fail
  obtain ⟨x4, y4, hz4, hP4, hk4, kf4⟩ := HH.out
  clear HH e0 e1 e2 e3 e4 e5 f3 f4 f5
  generalize ((w3.setCell ⟨p, 3, none⟩ (.slice ad3 n3 cp3)).setCell ⟨p, 4, none⟩ (.bool s3)).setCell ⟨p, 5, none⟩ (.slice a3 l3 c3) = w4 at *
  refine (anorm_n (B := B + np + 16 + np1 + (B + np + 16 + nu + 1) + (np1 + nu) + 2) hz4.zm (by omega) hP4.pr hk4.zm hl4 (by omega) (by omega)).mono ?_
  rintro e w5 ⟨q5, hS5, hc5, hA5, k5⟩
  obtain ⟨f', hf'⟩ := hform.out q5 (fkk + csum fps v * uk)
  rw [hf'] at hA5
  have hdone := hide (fun e w' => hres.out e w' q5 f' hS5 (fun u => (hc5 u).trans (hcs.out u)) hf')
  clear hres hform hf' hS5 hc5 hcs hStd
  obtain ⟨sdL, adL, ldL, cdL, apL, npL, cpL, skL, akL, lkL, ckL, rfl, hzL, hlzL, hPnL, hnpL, hkL, hlkL, hnewL⟩ := hA5
  have hs4 := x4.lt
  have hs5 := y4.lt
  replace x4 := x4.below k5
  replace y4 := y4.below k5
  obtain ⟨g5, x6, hz6, hP6, hk6⟩ := ab_put x4 hzL hPnL hkL (fun b off e => by have h9 := hnewL b off e; omega) f'.kind cpL
  have y6 := y4.neq g5 (by omega)
  have kf6 := below_grown (grow_step k5 kf4) g5 hwp
  obtain ⟨g7, y7, hz7, hP7, hk7⟩ := ab_put y6 hz6 hP6 hk6 (fun b off e => by have h9 := hnewL b off e; omega) f'.kind cpL
  have kf7 := below_grown kf6 g7 hwr
  have hbw : ∀ b off, apL = some ⟨b, off, none⟩ → w.heap.size ≤ b := fun b off e => by have h9 := hnewL b off e; omega
  have hbd : ldL ≤ 2 * B + 6 * (np + nu) + 128 ∧ npL ≤ 2 * B + 6 * (np + nu) + 128 ∧ lkL ≤ 2 * B + 6 * (np + nu) + 128 ∧ B + np + 16 + np1 + (B + np + 16 + nu + 1) + (np1 + nu) + 2 + n3 + 16 ≤ 2 * B + 6 * (np + nu) + 128 := by omega
  have HI := hide (And.intro x6 y6)
  have HH := hide (And.intro y7 (And.intro hz7 (And.intro hP7 (And.intro hk7 (And.intro hbw (And.intro kf7 hbd))))))
  have e0 := x4.c0
  have e1 := x4.c1
  have e2 := x4.c2
  have e3 := x4.c3
  have e4 := x4.c4
  have e5 := x4.c5
  have f0 := x4.f 0
  have f1 := x4.f 1
  have f2 := x4.f 2
  have f3 := x4.f 3
  have f4 := x4.f 4
  have f5 := x4.f 5
  have g0 := y4.c0
  have g1 := y4.c1
  have g2 := y4.c2
  have g3 := y4.c3
  have g4 := y4.c4
  have g5 := y4.c5
  have h0 := y4.f 0
  have h1 := y4.f 1
  have h2 := y4.f 2
  have h3 := y4.f 3
  have h4 := y4.f 4
  have h5 := y4.f 5
  clear x4 y4 hz4 hP4 hk4 kf4 hzL hPnL hkL hnewL k5 g5 x6 hz6 hP6 hk6 y6 kf6 g7 y7 hz7 hP7 hk7 kf7 hbw hbd hld hlk hlu hn hB hlz1 hnp1 hlk1 hnp2 hlen hn3 hl4 hlzL hnpL hlkL hs2 hs3 hs4 hs5 hnps hrb hpl hql hrl hpq hqr hwp hwr hp b0 hPu0 hku0 hv
  iterate 19 (first | go_skip | go_guarded | go_step | go_upon | go_simp)
  obtain ⟨x6, y6⟩ := HI.out
  clear HI e0 e1 e2 e3 e4 e5 f0 f1 f2 f3 f4 f5 g0 g1 g2 g3 g4 g5 h0 h1 h2 h3 h4 h5
  generalize ((((((w5.setCell ⟨p, 0, none⟩ (.int .i64 f'.kind)).setCell ⟨p, 1, none⟩ (.bool sdL)).setCell ⟨p, 2, none⟩ (.slice adL ldL cdL)).setCell ⟨p, 3, none⟩ (.slice apL npL cpL)).setCell ⟨p, 4, none⟩ (.bool skL)).setCell ⟨p, 5, none⟩ (.slice akL lkL ckL)) = w6 at *
  have e0 := x6.c0
  have e1 := x6.c1
  have e2 := x6.c2
  have e3 := x6.c3
  have e4 := x6.c4
  have e5 := x6.c5
  have g0 := y6.c0
  have g1 := y6.c1
  have g2 := y6.c2
  have g3 := y6.c3
  have g4 := y6.c4
  have g5 := y6.c5
  have h0 := y6.f 0
  have h1 := y6.f 1
  have h2 := y6.f 2
  have h3 := y6.f 3
  have h4 := y6.f 4
  have h5 := y6.f 5
  clear x6 y6
  go_wp2
  obtain ⟨y4, hz4, hP4, hk4, hbw, kf4, hb1, hb2, hb3, hb4⟩ := HH.out
  refine bodyPost_ret (results_cell_row rfl _ _ r 29 _ (0, 0) _ rfl y4 Tryz.underlying29 rfl (by kernel_rfl)) rfl ?_
  obtain ⟨q, h1, h2, h3⟩ := hdone.out (.returned (.agg #[.int .i64 f'.kind, .bool sdL, .slice adL ldL cdL, .slice apL npL cpL, .bool skL, .slice akL lkL ckL])) _ ⟨sdL, adL, ldL, cdL, apL, npL, cpL, skL, akL, lkL, ckL, rfl, hz4, hb1, hP4.mono hb4, hb2, hk4, hb3, hbw⟩
  exact ⟨q, h1, h2, by first | exact h3 | simpa using h3, kf4⟩
end Go.Proofs.YtjlkmjonadkkdaaGreatDoor

namespace Go.Proofs.YtjlkmjonadkkdaaGreatDoor
open Go.RowKit Go.Sort Go.Shelf
open Tm At

set_option maxRecDepth 100000 in
set_option maxHeartbeats 6400000 in
theorem atomPuts_walk {w : World} {kd : Int} {sd : Bool} {ad : Option Addr} {ld cd : Nat} {ap : Option Addr} {np cp : Nat} {sk : Bool} {ak : Option Addr} {lk ck : Nat} {d k : Int} {ps : List (Int × Int)} {B : Nat} {v : Int} {apu : Option Addr} {nu cpu : Nat} {su : Bool} {au : Option Addr} {lu cu : Nat} {us : List (Int × Int)} {uk : Int} {ad2 : Option Addr} {n2 cp2 : Nat} {vs : List (Int × Int)}
  (hd : Zm w sd ad ld cd d) (hld : ld ≤ B) (hP : Pr w ap np ps B) (hk : Zm w sk ak lk ck k) (hlk : lk ≤ B) (hv : I64 v) (hPu : Pr w apu nu us B) (hku : Zm w su au lu cu uk) (hlu : lu ≤ B) (hn : np + nu ≤ 209716) (hnu : nu ≤ B) (hV : Pr w ad2 n2 vs B) (hn2 : n2 ≤ B) (hcp : ad2 = none → n2 = 0 ∧ cp2 = 0) (hB : B ≤ 1048576) (htab : Tab w) :
  Calls Tryz.prog 8 #[.agg #[.int .i64 kd, .bool sd, .slice ad ld cd, .slice ap np cp, .bool sk, .slice ak lk ck], .int .i64 v, .agg #[.slice apu nu cpu, .bool su, .slice au lu cu], .slice ad2 n2 cp2] w fun x w' => x = .returned (.bool true) ∧ Below w.heap.size w w' := by
 replace hcp := hide hcp
 go_enter Tryz.func8, Tryz.ntmps8
 go_wp2_with fail
 have x := (AB.new w kd sd ad ld cd ap np cp sk ak lk ck).below (below_alloc _ (.cells #[.slice apu nu cpu, .bool su, .slice au lu cu] 27))
 have t := tb_new (w.alloc (.cells #[.int .i64 kd, .bool sd, .slice ad ld cd, .slice ap np cp, .bool sk, .slice ak lk ck] 29)) apu nu cpu su au lu cu
 have b0 : Below w.heap.size w ((w.alloc (.cells #[.int .i64 kd, .bool sd, .slice ad ld cd, .slice ap np cp, .bool sk, .slice ak lk ck] 29)).alloc (.cells #[.slice apu nu cpu, .bool su, .slice au lu cu] 27)) := below_alloc' (below_alloc _ _) _
 rw [show (w.alloc (.cells #[.int .i64 kd, .bool sd, .slice ad ld cd, .slice ap np cp, .bool sk, .slice ak lk ck] 29)).heap.size = w.heap.size + 1 from by simp] at t
 generalize (w.alloc (.cells #[.int .i64 kd, .bool sd, .slice ad ld cd, .slice ap np cp, .bool sk, .slice ak lk ck] 29)).alloc (.cells #[.slice apu nu cpu, .bool su, .slice au lu cu] 27) = wb at *
 replace hd := hd.below b0
 replace hP := hP.below b0
 replace hk := hk.below b0
 replace hPu := hPu.below b0
 replace hku := hku.below b0
 replace hV := hV.below b0
 replace htab := htab.below b0
 generalize hp : w.heap.size = p at *
 replace b0 : Hid (Below w.heap.size w wb) := hp ▸ b0
 clear hp
 generalize p + 1 = pu at *
 have hnps := hP.1
 refine (awake6_n wb htab).mono ?_
 rintro e w1 ⟨rfl, k1⟩
 replace k1 := hide k1
 have u0 := (t.below k1.out).c0
 have u1 := (t.below k1.out).c1
 have u2 := (t.below k1.out).c2
 have ul := (t.below k1.out).lt
 go_wp2_with fail
 refine (eval_n (hPu.below k1.out) (hku.below k1.out) hlu (hV.below k1.out) (by omega)).mono ?_
 rintro e w2 ⟨sx, ax, lx, cx, ex, rfl, kE, hEx⟩
 have k2 := hide (grow_alloc (grow_step kE k1.out) (.cells #[.bool sx, .slice ax lx cx] 24))
 have bx := zb_new w2 sx ax lx cx
 have x2 := x.below (grow_step kE k1.out)
 clear u0 u1 u2 ul htab
 have u0 := x2.c0
 have u1 := x2.c1
 have u2 := x2.c2
 have u3 := x2.c3
 have u4 := x2.c4
 have u5 := x2.c5
 have ul := x2.lt
 have kzz := below_alloc w2 (.cells #[.bool sx, .slice ax lx cx] 24)
 have hEx' : Hid ((ex = 170) ∨ (Tot us vs ∧ ex = 0 ∧ Zn (w2.alloc (.cells #[.bool sx, .slice ax lx cx] 24)) sx ax lx cx (uk + ev us (val1 vs)) ∧ lx ≤ 2 * B + 2 * nu + 1)) := by
  rcases hEx with ⟨-, rfl, -⟩ | ⟨h1, h2, h3, h4⟩
  ·exact .inl rfl
  ·exact .inr ⟨h1, h2, h3.below kzz, h4⟩
 replace bx := hide bx
 clear hEx kE k1 x2 kzz
 go_wp2_with fail
 clear u0 u1 u2 u3 u4 u5 ul
 replace bx := bx.out
 generalize w2.alloc (.cells #[.bool sx, .slice ax lx cx] 24) = w3 at *
 generalize w2.heap.size = qx at *
 refine (anorm_n (hd.below k2.out) hld (hP.below k2.out) (hk.below k2.out) hlk (by omega) (by omega)).mono ?_
 rintro e w4 ⟨qs, hS, hc, hA, k4⟩
 cases hf : formA kd d qs k with
 | inr er =>
  rw [hf] at hA
  have her := formA_er hf
  have he : _ = _ := hA
  subst he
  have kf := hide (grow_step (below_alloc w4 (.cells #[.int .i64 0, .bool false, .slice none 0 0, .slice none 0 0, .bool false, .slice none 0 0] 29)) (grow_step k4 (grow_step k2.out b0.out)))
  have hex : ex = 170 ∨ ex = 0 := by rcases hEx'.out with h | ⟨_, h, _⟩ <;> simp [h]
  clear hf hS hA k4 hc hV x hd hP hk hEx' bx k2 hPu hku t
  rcases hex with rfl | rfl
  ·go_wp2
   go_ret
   exact ⟨rfl, kf.out⟩
  ·rcases her with rfl | rfl
   ·go_wp2
    go_ret
    exact ⟨rfl, kf.out⟩
   ·go_wp2
    go_ret
    exact ⟨rfl, kf.out⟩
 | inl f =>
  rw [hf] at hA
  have hfit := formA_fit hS hf
  have hprt := formA_prt hS hf
  have hlen : f.ps.length ≤ np := by have h1 := hprt.1; have h2 := std_len hS hc; omega
  have hag : formA f.kind f.d f.ps f.k = .inl f := hfit.again
  obtain ⟨fk, fd, fps, fkk⟩ := f
  obtain ⟨sd1, ad1, ld1, cd1, ap1, np1, cp1, sk1, ak1, lk1, ck1, rfl, hz1, hlz1, hPn1, hnp1, hk1, hlk1, -⟩ := hA
  dsimp only at hz1 hPn1 hk1 hlen hag
  have hnp2 : np1 ≤ np := by have := hPn1.1; omega
  have y := AB.new w4 fk sd1 ad1 ld1 cd1 ap1 np1 cp1 sk1 ak1 lk1 ck1
  have ka := below_alloc w4 (.cells #[.int .i64 fk, .bool sd1, .slice ad1 ld1 cd1, .slice ap1 np1 cp1, .bool sk1, .slice ak1 lk1 ck1] 29)
  replace hz1 := hz1.below ka
  replace hPn1 := hPn1.below ka
  replace hk1 := hk1.below ka
  have k5 := hide (grow_step ka (grow_step k4 k2.out))
  replace hfit := hide hfit
  replace hag := hide hag
  replace hf := hide hf
  replace hS := hide hS
  replace hc := hide hc
  have bx4 := bx.below k4
  have bx5 := bx4.below ka
  rcases hEx'.out with rfl | ⟨hT1, rfl, hzx, hlx⟩
  ·have kf := hide (grow_step k5.out b0.out)
   clear hEx' hz1 hPn1 hk1 y bx bx4 bx5 ka k4 k2 k5 hV x hd hP hk hPu hku t
   go_wp2
   go_ret
   exact ⟨rfl, kf.out⟩
  ·replace hzx := (hzx.below k4).below ka
   have z0 := bx4.c0
   have z1 := bx4.c1
   have zl := bx4.lt
   have hq : (w4.alloc (.cells #[.int .i64 fk, .bool sd1, .slice ad1 ld1 cd1, .slice ap1 np1 cp1, .bool sk1, .slice ak1 lk1 ck1] 29)).heap.size = w4.heap.size + 1 := by simp
   have hV5 := hV.below k5.out
   replace hq := hide hq
   replace hT1 := hide hT1
   have HH := hide (And.intro y (And.intro hz1 (And.intro hPn1 hk1)))
   clear hEx' ka k4 k2 bx bx4 hprt hz1 hPn1 hk1 y
   go_wp2_with (at_builtin; refine wpList_append_run rfl _ _ 43 rfl _ _ rfl rfl _ (append_vals (B := 8 * B + 8) hq.out hzx.zm (by omega) hv (hV5.mono (by omega)) (by omega) hcp.out _) ?_; rintro v' w6 ⟨kP, adw, cpw, rfl, hPw⟩; have u0 := (HH.out.1.below kP).c0; have u1 := (HH.out.1.below kP).c1; have u2 := (HH.out.1.below kP).c2; have u3 := (HH.out.1.below kP).c3; have u4 := (HH.out.1.below kP).c4; have u5 := (HH.out.1.below kP).c5)
   obtain ⟨y, hz1, hPn1, hk1⟩ := HH.out
   clear HH u0 u1 u2 u3 u4 u5 z0 z1 zl
   replace y := y.below kP
   replace hz1 := hz1.below kP
   replace hPn1 := hPn1.below kP
   replace hk1 := hk1.below kP
   have k6 := hide (grow_step kP k5.out)
   clear kP k5 hq hV5 bx5 hzx
   generalize w4.heap.size = qn at *
   generalize hX : uk + ev us (val1 vs) = X at *
   refine (aholds_n (B := B + np + 16) (B2 := 8 * B + 8) hz1.zm hlz1 hPn1.pr hk1.zm hlk1 (by omega) (by omega) hPw (by omega) (by omega)).mono ?_
   rintro e w7 ⟨q7, hS7, hc7, hO, k7⟩
   obtain rfl : q7 = fps := std_unique hS7 hfit.out.std hc7
   rw [hag.out] at hO
   replace k7 := hide (grow_step k7 k6.out)
   clear k6 hS7 hc7 hz1 hPn1 hk1 y hPw
   rcases hO with ⟨-, rfl⟩ | ⟨hT2, b7, rfl, hb7⟩
   ·have kf := hide (grow_step k7.out b0.out)
    clear hV x hd hP hk hPu hku t
    go_wp2
    go_ret
    exact ⟨rfl, kf.out⟩
   ·have u0 := (x.below k7.out).c0
    have u1 := (x.below k7.out).c1
    have u2 := (x.below k7.out).c2
    have u3 := (x.below k7.out).c3
    have u4 := (x.below k7.out).c4
    have u5 := (x.below k7.out).c5
    have v0 := (t.below k7.out).c0
    have v1 := (t.below k7.out).c1
    have v2 := (t.below k7.out).c2
    replace hT2 := hide hT2
    replace hb7 := hide hb7
    go_wp2_with fail
    clear u0 u1 u2 u3 u4 u5 v0 v1 v2
    refine (aput_n (hd.below k7.out) hld (hP.below k7.out) (hk.below k7.out) hlk hv (hPu.below k7.out) (hku.below k7.out) hlu (by omega) (by omega)).mono ?_
    rintro e w8 ⟨q8, hS8, hc8, hT, k8⟩
    obtain rfl : q8 = qs := std_unique hS8 hS.out fun v => (hc8 v).trans (hc.out v).symm
    rw [hf.out] at hT
    obtain ⟨rs, f', hSr, hcr, hfr, hA⟩ := hT
    dsimp only at hcr hfr
    have hfit' := formA_fit hSr hfr
    have hlen' : f'.ps.length ≤ np + nu := by
     have h1 := (formA_prt hSr hfr).1
     have h2 := std_len hSr hcr
     have h3 := wo_length_le v q7
     have h4 := hPu.1
     simp only [List.length_append, scl, List.length_map] at h2
     omega
    have hsat := formA_sat hSr hfr (val1 vs)
    have hev := ev_put (vs := vs) (k := fkk) (k2 := uk) hcr
    rw [hX] at hev
    have hss : Sat ⟨fk, fd, rs, fkk + csum q7 v * uk⟩ (val1 vs) ↔ Sat ⟨fk, fd, q7, fkk⟩ (val1 ((v, X) :: vs)) := by
     unfold Sat
     simp only [hev]
    have htot : Tot f'.ps vs := (formA_prt hSr hfr).tot (tot_put (x := X) hT1.out hT2.out hcr)
    have hbb : Hid (b7 = true ↔ Sat f' (val1 vs)) := hb7.out.trans (hss.symm.trans hsat.symm)
    have hag' := hide hfit'.again
    replace htot := hide htot
    replace hfit' := hide hfit'
    obtain ⟨gk, gd, gps, gkk⟩ := f'
    obtain ⟨sd4, ad4, ld4, cd4, ap4, np4, cp4, sk4, ak4, lk4, ck4, rfl, hz4, hlz4, hPn4, hnp4, hk4, hlk4, -⟩ := hA
    dsimp only at hz4 hPn4 hk4 hlen'
    have hnp5 : np4 ≤ np + nu := by have h1 := hPn4.1; omega
    have y4 := AB.new w8 gk sd4 ad4 ld4 cd4 ap4 np4 cp4 sk4 ak4 lk4 ck4
    have ka := below_alloc w8 (.cells #[.int .i64 gk, .bool sd4, .slice ad4 ld4 cd4, .slice ap4 np4 cp4, .bool sk4, .slice ak4 lk4 ck4] 29)
    replace hz4 := hz4.below ka
    replace hPn4 := hPn4.below ka
    replace hk4 := hk4.below ka
    have k9 := hide (grow_step ka (grow_step k8 k7.out))
    have hV9 := hV.below k9.out
    have HH := hide (And.intro hz4 (And.intro hPn4 (And.intro hk4 hV9)))
    clear hz4 hPn4 hk4 hV9 ka k8 k7 hsat hev hss hSr hcr hfr hS8 hc8 hb7 hT1 hT2 y4
    go_wp2_with fail
    obtain ⟨hz4, hPn4, hk4, hV9⟩ := HH.out
    clear HH
    refine (aholds_n (B2 := B) hz4.zm hlz4 hPn4.pr hk4.zm hlk4 (by omega) (by omega) hV9 (by omega) (by omega)).mono ?_
    rintro e wa ⟨qa, hSa, hca, hOa, ka⟩
    obtain rfl : qa = gps := std_unique hSa hfit'.out.std hca
    rw [hag'.out] at hOa
    rcases hOa with ⟨hno, -⟩ | ⟨-, ba, rfl, hba⟩
    ·exact absurd htot.out hno
    obtain rfl : ba = b7 := by
     have h9 : ba = true ↔ b7 = true := hba.trans hbb.out.symm
     cases ba <;> cases b7 <;> simp_all
    have kf := hide (grow_step (grow_step ka k9.out) b0.out)
    clear ka k9 hba hbb hSa hca htot hfit' hag' hz4 hPn4 hk4 hV9
    cases ba
    ·go_wp2
     go_ret
     exact ⟨rfl, kf.out⟩
    ·go_wp2
     go_ret
     exact ⟨rfl, kf.out⟩
end Go.Proofs.YtjlkmjonadkkdaaGreatDoor
