/-
 The law AtomShort: its walk.
-/
import Derived.Test.YtjlkmjonadkkdaaGreatDoorP30
namespace Go.Proofs.YtjlkmjonadkkdaaGreatDoor
open Go.RowKit Go.Sort Go.Shelf
open Tm At

theorem formA_bad {kd d : Int} {qs : List (Int × Int)} {k er : Int} (h : formA kd d qs k = .inr er) : er = 11 ∨ er = 1 := by
 unfold formA at h
 split at h
 ·cases h
 ·split at h
  ·cases h
  ·split at h
   ·split at h
    ·cases h; exact .inl rfl
    ·cases h
   ·cases h; exact .inr rfl
/-- a row of two numbers -/
def G2 (w : World) (b : Nat) (s1 : Bool) (a1 : Option Addr) (l1 c1 : Nat) (s2 : Bool) (a2 : Option Addr) (l2 c2 : Nat) : Prop := w.heap[b]? = some (.cells #[.bool s1, .slice a1 l1 c1, .bool s2, .slice a2 l2 c2] 24 (0, 0))
theorem G2.lt {w : World} {b : Nat} {s1 : Bool} {a1 : Option Addr} {l1 c1 : Nat} {s2 : Bool} {a2 : Option Addr} {l2 c2 : Nat} (h : G2 w b s1 a1 l1 c1 s2 a2 l2 c2) : b < w.heap.size := (Array.getElem?_eq_some_iff.1 h).1
theorem G2.below {w w' : World} {b : Nat} {s1 : Bool} {a1 : Option Addr} {l1 c1 : Nat} {s2 : Bool} {a2 : Option Addr} {l2 c2 : Nat} (h : G2 w b s1 a1 l1 c1 s2 a2 l2 c2) (k : Below w.heap.size w w') : G2 w' b s1 a1 l1 c1 s2 a2 l2 c2 := (k.block b h.lt).trans h
theorem Zm.nm {w : World} {s : Bool} {a : Option Addr} {l c : Nat} {z : Int} (h : Zm w s a l c z) : Nm w a l c ((z.natAbs : Nat) : Int) := by
 obtain ⟨n, hn, rfl⟩ := h
 have h0 := hn.nonneg
 rw [show (((sg s n).natAbs : Nat) : Int) = n from by cases s <;> simp [sg] <;> omega]
 exact hn
theorem Zn.len_le {w w' : World} {s : Bool} {a : Option Addr} {l c : Nat} {z : Int} {a' : Option Addr} {l' c' : Nat} {n : Int} (h : Zn w s a l c z) (h' : Nm w' a' l' c' n) (hle : ((z.natAbs : Nat) : Int) ≤ n) : l ≤ l' := by
 obtain ⟨m, ⟨zs, h1, h2, h3⟩, h4, -⟩ := h
 obtain ⟨xs, g1, g2⟩ := h'
 have hm := (Cn.nm ⟨zs, h1, h2, h3⟩).nonneg
 have e : ((z.natAbs : Nat) : Int) = m := by rw [h4]; cases s <;> simp [sg] <;> omega
 rcases Nat.lt_or_ge l' l with hlt | hge
 ·have := val_lt_of_length g1.2.2.2.1 h2 (by rw [g1.1, h1.1]; exact hlt)
  omega
 ·exact hge
theorem gcd2_n {w : World} {b : Nat} {s1 : Bool} {a1 : Option Addr} {l1 c1 : Nat} {s2 : Bool} {a2 : Option Addr} {l2 c2 : Nat} {z1 z2 : Int} (h : G2 w b s1 a1 l1 c1 s2 a2 l2 c2) (h1 : Zm w s1 a1 l1 c1 z1) (h2 : Zm w s2 a2 l2 c2 z2) (hl1 : l1 ≤ 4294967296) (hl2 : l2 ≤ 4294967296) :
  Calls Tryz.prog 36 #[.slice (some ⟨b, 0, none⟩) 2 2] w fun e w' => ∃ s a l c, e = .returned (.agg #[.bool s, .slice a l c]) ∧ Zn w' s a l c ((Nat.gcd z1.natAbs z2.natAbs : Nat) : Int) ∧ Below w.heap.size w w' := by
 have hl : ZL w b 0 2 (fun i => if i = 0 then s1 else s2) (fun i => if i = 0 then a1 else a2) (fun i => if i = 0 then l1 else l2) (fun i => if i = 0 then c1 else c2) (fun i => if i = 0 then ((z1.natAbs : Nat) : Int) else ((z2.natAbs : Nat) : Int)) := by
  refine ⟨h.lt, fun i hi => ?_, fun i hi => ?_, fun i hi => ?_, fun i hi => ?_⟩ <;> (match i, hi with
   | 0, _ => first | exact cell_of_row w b 0 _ _ (0, 0) h | exact cell_of_row w b 1 _ _ (0, 0) h | exact h1.nm | exact hl1
   | 1, _ => first | exact cell_of_row w b 2 _ _ (0, 0) h | exact cell_of_row w b 3 _ _ (0, 0) h | exact h2.nm | exact hl2)
 refine (zgcd_any (cap := 2) hl (by simp [foldL]; omega) (by decide)).mono ?_
 rintro e w' ⟨s, a, l, c, rfl, hz, k, -⟩
 refine ⟨s, a, l, c, rfl, ?_, k⟩
 have he : fold gcdI 0 (fun i => if i = 0 then ((z1.natAbs : Nat) : Int) else ((z2.natAbs : Nat) : Int)) 2 = ((Nat.gcd z1.natAbs z2.natAbs : Nat) : Int) := by
  simp [fold, gcdI]
 rw [← he]
 exact hz
theorem sk9 {w w' : World} {r bp o1 o2 : Nat} {kd : Int} {s : Bool} {a : Option Addr} {l c : Nat} {ad : Option Addr} {n cp : Nat} {t : Bool} {b : Option Addr} {m d : Nat} {v1 v2 : Value} (y : AB w r kd s a l c ad n cp t b m d) (x1 : w.cell? ⟨bp, o1, none⟩ = some v1) (x2 : w.cell? ⟨bp, o2, none⟩ = some v2) (k : Below w.heap.size w w') :
  w'.cell? ⟨r, 3, none⟩ = some (.slice ad n cp) ∧ w'.cell? ⟨bp, o1, none⟩ = some v1 ∧ w'.cell? ⟨bp, o2, none⟩ = some v2 ∧ Below w.heap.size w w' :=
 ⟨(y.below k).c3, (k.cell (p := ⟨bp, o1, none⟩) (World.block_lt_of_cell? w ⟨bp, o1, none⟩ x1)).trans x1, (k.cell (p := ⟨bp, o2, none⟩) (World.block_lt_of_cell? w ⟨bp, o2, none⟩ x2)).trans x2, k⟩
theorem sk10 {w w' : World} {r bp o1 o2 : Nat} {kd : Int} {s : Bool} {a : Option Addr} {l c : Nat} {ad : Option Addr} {n cp : Nat} {t : Bool} {b : Option Addr} {m d : Nat} {v1 v2 : Value} (y : AB w r kd s a l c ad n cp t b m d) (x1 : w.cell? ⟨bp, o1, none⟩ = some v1) (x2 : w.cell? ⟨bp, o2, none⟩ = some v2) (k : Below w.heap.size w w') :
  w'.cell? ⟨r, 1, none⟩ = some (.bool s) ∧ w'.cell? ⟨r, 2, none⟩ = some (.slice a l c) ∧ w'.cell? ⟨r, 3, none⟩ = some (.slice ad n cp) ∧ w'.cell? ⟨bp, o1, none⟩ = some v1 ∧ w'.cell? ⟨bp, o2, none⟩ = some v2 ∧ Below w.heap.size w w' :=
 ⟨(y.below k).c1, (y.below k).c2, (y.below k).c3, (k.cell (p := ⟨bp, o1, none⟩) (World.block_lt_of_cell? w ⟨bp, o1, none⟩ x1)).trans x1, (k.cell (p := ⟨bp, o2, none⟩) (World.block_lt_of_cell? w ⟨bp, o2, none⟩ x2)).trans x2, k⟩
theorem Fit.short {a : Atm} (h : Fit a) : ((a.kind = 0 ∨ a.kind = 1) ∧ a.d = 0 ∧ a.ps = []) ∨ ((a.kind = 2 ∨ a.kind = 3 ∨ a.kind = 4) ∧ Std a.ps ∧ a.ps ≠ [] ∧ gcdL a.d.natAbs a.ps = 1 ∧ ∀ q ∈ a.ps, a.kind ≠ 2 → 0 < q.2 ∧ q.2 < a.d) := by
 rcases h with ⟨h1, h2, h3, -⟩ | ⟨h1, h2, h3, h4, h5⟩ | ⟨h1, h2, -⟩
 ·exact .inl ⟨h1, h2, h3⟩
 ·exact .inr ⟨.inl h1, h3, h4, by rw [h2]; exact h5, fun q _ h => absurd h1 h⟩
 ·exact .inr ⟨.inr h1, h2.std, h2.some, h2.one, fun q hq _ => h2.rng q hq⟩
theorem Zn.nil {w : World} {s : Bool} {a : Option Addr} {l c : Nat} (h : Zn w s a l c 0) : l = 0 := by
 obtain ⟨n, ⟨zs, h1, h2, h3⟩, h4, -⟩ := h
 have hv : val zs = 0 := by cases s <;> simp [sg] at h4 <;> omega
 have hz := (canon_zero h2).1 hv
 have hl := h1.1
 rw [hz] at hl
 exact hl.symm

set_option maxRecDepth 100000 in
set_option maxHeartbeats 6400000 in
theorem atomShort_walk {w : World} {kd : Int} {sd : Bool} {ad : Option Addr} {ld cd : Nat} {ap : Option Addr} {np cp : Nat} {sk : Bool} {ak : Option Addr} {lk ck : Nat} {d k : Int} {ps : List (Int × Int)} {B : Nat}
  (hd : Zm w sd ad ld cd d) (hld : ld ≤ B) (hP : Pr w ap np ps B) (hk : Zm w sk ak lk ck k) (hlk : lk ≤ B) (hn : np ≤ 262144) (hB : B + np + 1 ≤ 4194000) (htab : Tab w) :
  Calls Tryz.prog 9 #[.agg #[.int .i64 kd, .bool sd, .slice ad ld cd, .slice ap np cp, .bool sk, .slice ak lk ck]] w fun x w' => x = .returned (.bool true) ∧ Below w.heap.size w w' := by
 go_enter Tryz.func9, Tryz.ntmps9
 go_wp2_with fail
 have x := AB.new w kd sd ad ld cd ap np cp sk ak lk ck
 have b0 := below_alloc w (.cells #[.int .i64 kd, .bool sd, .slice ad ld cd, .slice ap np cp, .bool sk, .slice ak lk ck] 29)
 replace hd := hd.below b0
 replace hP := hP.below b0
 replace hk := hk.below b0
 replace htab := htab.below b0
 generalize w.alloc (.cells #[.int .i64 kd, .bool sd, .slice ad ld cd, .slice ap np cp, .bool sk, .slice ak lk ck] 29) = wb at *
 generalize hp : w.heap.size = p at *
 replace b0 : Hid (Below w.heap.size w wb) := hp ▸ b0
 clear hp
 refine (awake6_n wb htab).mono ?_
 rintro e w1 ⟨rfl, k1⟩
 replace x := x.below k1
 replace hd := hd.below k1
 replace hP := hP.below k1
 replace hk := hk.below k1
 replace k1 := hide (grow_step k1 b0.out)
 clear b0 htab
 have u0 := x.c0
 have u1 := x.c1
 have u2 := x.c2
 have u3 := x.c3
 have u4 := x.c4
 have u5 := x.c5
 go_wp2_with fail
 refine (anorm_n hd hld hP hk hlk hn hB).mono ?_
 rintro e w2 ⟨qs, hS, hc, hA, k2⟩
 replace k2 := hide (grow_step k2 k1.out)
 clear u0 u1 u2 u3 u4 u5 x hd hP hk k1 hc
 cases hf : formA kd d qs k with
 | inr er =>
  rw [hf] at hA
  have her := formA_bad hf
  have he : _ = _ := hA
  subst he
  have y := AB.new w2 0 false none 0 0 none 0 0 false none 0 0
  have kf := hide (grow_step (below_alloc w2 (.cells #[.int .i64 0, .bool false, .slice none 0 0, .slice none 0 0, .bool false, .slice none 0 0] 29)) k2.out)
  clear hf hS hA k2
  rcases her with rfl | rfl
  ·go_wp2
   go_ret
   exact ⟨rfl, kf.out⟩
  ·go_wp2
   go_ret
   exact ⟨rfl, kf.out⟩
 | inl f =>
  rw [hf] at hA
  have hfit := formA_fit hS hf
  clear hf hS
  obtain ⟨fk, fd, fps, fkk⟩ := f
  obtain ⟨sd1, ad1, ld1, cd1, ap1, np1, cp1, sk1, ak1, lk1, ck1, rfl, hz1, hlz1, hPn1, hnp1, hk1, hlk1, -⟩ := hA
  dsimp only at hz1 hPn1 hk1
  have y := AB.new w2 fk sd1 ad1 ld1 cd1 ap1 np1 cp1 sk1 ak1 lk1 ck1
  have ka := below_alloc w2 (.cells #[.int .i64 fk, .bool sd1, .slice ad1 ld1 cd1, .slice ap1 np1 cp1, .bool sk1, .slice ak1 lk1 ck1] 29)
  replace hz1 := hz1.below ka
  replace hPn1 := hPn1.below ka
  replace hk1 := hk1.below ka
  replace k2 := hide (grow_step ka k2.out)
  clear ka
  rcases Fit.short hfit with ⟨hkind, hd0, hps0⟩ | ⟨hfk, hstd, hsome, hone, hrng⟩
  ·dsimp only at hkind hd0 hps0
   subst hd0 hps0
   obtain rfl := hz1.nil
   obtain rfl : np1 = 0 := hPn1.1.symm
   clear hz1 hPn1 hk1 y
   rcases hkind with rfl | rfl
   ·go_wp2
    go_ret
    exact ⟨rfl, k2.out⟩
   ·go_wp2
    go_ret
    exact ⟨rfl, k2.out⟩
  ·dsimp only at hfk hstd hsome hone hrng
   have i0 : (fk == 0) = false := by rw [beq_eq_false_iff_ne]; omega
   have i1 : (fk == 1) = false := by rw [beq_eq_false_iff_ne]; omega
   replace hrng := hide hrng
   replace hone := hide hone
   replace hstd := hide hstd
   replace hsome := hide hsome
   replace hfk := hide hfk
   clear hfit
   have u0 := y.c0
   have u1 := y.c1
   have u2 := y.c2
   go_wp2_with fail
   generalize w2.alloc (.cells #[.int .i64 fk, .bool sd1, .slice ad1 ld1 cd1, .slice ap1 np1 cp1, .bool sk1, .slice ak1 lk1 ck1] 29) = wn at *
   generalize w2.heap.size = bn at *
   refine (abs_n hz1.zm (by omega)).mono ?_
   rintro e w3 ⟨s3, a3, l3, c3, rfl, hg3, k3, hl3⟩
   replace y := y.below k3
   replace hz1 := hz1.below k3
   replace hPn1 := hPn1.below k3
   replace hk1 := hk1.below k3
   replace k2 := hide (grow_step k3 k2.out)
   clear k3 u0 u1 u2
   have zg := zb_new w3 s3 a3 l3 c3
   have kz := below_alloc w3 (.cells #[.bool s3, .slice a3 l3 c3] 24)
   replace hg3 := hg3.below kz
   have HH := hide (And.intro zg (And.intro kz hg3))
   clear zg kz hg3
   go_wp2_with fail
   obtain ⟨zg, kz, hg3⟩ := HH.out
   clear HH
   generalize w3.alloc (.cells #[.bool s3, .slice a3 l3 c3] 24) = w4 at *
   generalize hbg : w3.heap.size = bg at *
   replace hbg := hide hbg
   go_loopw [7] (fun i wr => ∃ (t : Nat) (sg : Bool) (ag : Option Addr) (lg cg : Nat), t ≤ np1 ∧ i = .int .i64 t ∧ Hid (ZB wr bg sg ag lg cg) ∧ Hid (Zn wr sg ag lg cg ((gcdL fd.natAbs (fps.take t) : Nat) : Int)) ∧ lg ≤ B + np + 17 ∧ Hid (Below bg w3 wr)) (fun i _ => np1 - (intOf i).toNat)
   case atStart => exact ⟨0, s3, a3, l3, c3, Nat.zero_le _, rfl, zg, hg3, by omega, kz⟩
   case round =>
    obtain ⟨t, sg, ag, lg, cg, ht, rfl, zgr, hgr, hlg, kr⟩ := hrel
    have kr3 : Hid (Below w3.heap.size w3 wr) := (hbg.out.symm ▸ kr.out : Below w3.heap.size w3 wr)
    have yr := y.below kr3.out
    have v3 := yr.c3
    by_cases htn : t < np1
    ·obtain ⟨hlen, hPP⟩ := hPn1
     rcases hPP with h0 | ⟨bp, op, rfl, hbp, hPP⟩
     ·omega
     obtain ⟨sc, ac, lc, cc, x0, x1, x2, hzc3, hlc, -⟩ := hPP t (by omega)
     have e1 := (kr3.out.cell (p := ⟨bp, op + t * 3 + 1, none⟩) hbp).trans x1
     have e2 := (kr3.out.cell (p := ⟨bp, op + t * 3 + 2, none⟩) hbp).trans x2
     have hstep : Hid (gcdL fd.natAbs (fps.take (t + 1)) = Nat.gcd (gcdL fd.natAbs (fps.take t)) (fps[t]'(by omega)).2.natAbs) := (show _ = _ by rw [List.take_succ_eq_append_getElem (l := fps) (i := t) (by omega)]; unfold gcdL; rw [List.foldl_append]; rfl)
     have hrq : Hid (fk ≠ 2 → 0 < (fps[t]'(by omega)).2 ∧ (fps[t]'(by omega)).2 < fd) := hrng.out _ (List.getElem_mem _)
     have hnz : Hid ((fps[t]'(by omega)).2 ≠ 0) := hstd.out.2 _ (List.getElem_mem _)
     have hbge : w3.heap.size ≤ bg := Nat.le_of_eq hbg.out
     generalize (fps[t]'(by omega)) = pt at *
     obtain ⟨pv, pc⟩ := pt
     dsimp only at *
     generalize gcdL fd.natAbs (fps.take t) = gt at *
     have g0 := zgr.out.c0
     have g1 := zgr.out.c1
     go_wp2_with fail
     clear g0 g1 e1 e2 v3
     refine Code.wp_mono (Q := fun e a' W' => e = .normal ∧ ∃ bR sN aN lN cN, a' = ⟨List.toArray ((Value.agg #[Value.int IntKind.i64 kd, Value.bool sd, Value.slice ad ld cd, Value.slice ap np cp, Value.bool sk, Value.slice ak lk ck] : Value) :: (Value.pointer (some { block := p, off := 0 }) : Value) :: (u2 : Value) :: (Value.bool true : Value) :: (Value.pointer (some { block := bn, off := 0 }) : Value) :: (Value.int IntKind.i64 0 : Value) :: (Value.pointer (some { block := bg, off := 0 }) : Value) :: (Value.int IntKind.i64 ↑t : Value) :: (u8 : Value) :: (u9 : Value) :: (undef : Value) :: (undef : Value) :: (Value.bool true : Value) :: (Value.tuple #[Value.agg #[Value.int IntKind.i64 fk, Value.bool sd1, Value.slice ad1 ld1 cd1, Value.slice (some { block := bp, off := op }) np1 cp1, Value.bool sk1, Value.slice ak1 lk1 ck1], Value.int IntKind.i64 0] : Value) :: (Value.agg #[Value.int IntKind.i64 kd, Value.bool sd, Value.slice ad ld cd, Value.slice ap np cp, Value.bool sk, Value.slice ak lk ck] : Value) :: (Value.tuple #[Value.agg #[Value.int IntKind.i64 fk, Value.bool sd1, Value.slice ad1 ld1 cd1, Value.slice (some { block := bp, off := op }) np1 cp1, Value.bool sk1, Value.slice ak1 lk1 ck1], Value.int IntKind.i64 0] : Value) :: (Value.agg #[Value.int IntKind.i64 fk, Value.bool sd1, Value.slice ad1 ld1 cd1, Value.slice (some { block := bp, off := op }) np1 cp1, Value.bool sk1, Value.slice ak1 lk1 ck1] : Value) :: (Value.int IntKind.i64 0 : Value) :: (Value.int IntKind.i64 0 : Value) :: (Value.bool false : Value) :: (Value.bool false : Value) :: (Value.pointer (some { block := bn, off := 0 }) : Value) :: (Value.int IntKind.i64 fk : Value) :: (Value.bool false : Value) :: (Value.bool false : Value) :: (Value.bool false : Value) :: (Value.pointer (some { block := bn, off := 0 }) : Value) :: (Value.int IntKind.i64 fk : Value) :: (Value.bool false : Value) :: (Value.bool false : Value) :: (undef : Value) :: (undef : Value) :: (undef : Value) :: (undef : Value) :: (undef : Value) :: (undef : Value) :: (undef : Value) :: (undef : Value) :: (undef : Value) :: (undef : Value) :: (undef : Value) :: (undef : Value) :: (undef : Value) :: (undef : Value) :: (undef : Value) :: (Value.pointer (some { block := bn, off := 1 }) : Value) :: (Value.agg #[Value.bool sd1, Value.slice ad1 ld1 cd1] : Value) :: (Value.agg #[Value.bool s3, Value.slice a3 l3 c3] : Value) :: (Value.int IntKind.i64 ↑t : Value) :: (Value.pointer (some { block := bn, off := 3 }) : Value) :: (Value.pointer (some { block := bn, off := 3 }) : Value) :: (Value.slice (some { block := bp, off := op }) np1 cp1 : Value) :: (Value.int IntKind.i64 ↑np1 : Value) :: (Value.bool true : Value) :: (u54 : Value) :: (u55 : Value) :: (.agg #[.bool sg, .slice ag lg cg] : Value) :: (.pointer (some ⟨bn, 3, none⟩) : Value) :: (.pointer (some ⟨bn, 3, none⟩) : Value) :: (.slice (some ⟨bp, op, none⟩) np1 cp1 : Value) :: (.int .i64 t : Value) :: (.pointer (some ⟨bp, op + t * 3, none⟩) : Value) :: (.pointer (some ⟨bp, op + t * 3 + 1, none⟩) : Value) :: (.agg #[.bool sc, .slice ac lc cc] : Value) :: (.slice (some ⟨bR, 0, none⟩) 2 2 : Value) :: (.agg #[.bool sN, .slice aN lN cN] : Value) :: (u66 : Value) :: (u67 : Value) :: (u68 : Value) :: (u69 : Value) :: (u70 : Value) :: (u71 : Value) :: (u72 : Value) :: (u73 : Value) :: (u74 : Value) :: (u75 : Value) :: (u76 : Value) :: (u77 : Value) :: (u78 : Value) :: (u79 : Value) :: (u80 : Value) :: (u81 : Value) :: (u82 : Value) :: (u83 : Value) :: (u84 : Value) :: (u85 : Value) :: (u86 : Value) :: (u87 : Value) :: (u88 : Value) :: (u89 : Value) :: (u90 : Value) :: (u91 : Value) :: (u92 : Value) :: (u93 : Value) :: (u94 : Value) :: (undef : Value) :: (undef : Value) :: (undef : Value) :: (undef : Value) :: (undef : Value) :: (undef : Value) :: (undef : Value) :: (undef : Value) :: (undef : Value) :: (undef : Value) :: (undef : Value) :: (undef : Value) :: (undef : Value) :: (undef : Value) :: (undef : Value) :: (undef : Value) :: (undef : Value) :: (undef : Value) :: (undef : Value) :: (undef : Value) :: (undef : Value) :: (undef : Value) :: (undef : Value) :: (undef : Value) :: (undef : Value) :: (undef : Value) :: []), []⟩ ∧ ZB W' bg sN aN lN cN ∧ Zn W' sN aN lN cN ((Nat.gcd gt pc.natAbs : Nat) : Int) ∧ Below w3.heap.size w3 W') ?_ ?_
     rotate_left
     ·refine wp_region_held_drew (S := (fun w' => w'.cell? ⟨bn, 3, none⟩ = some (.slice (some ⟨bp, op, none⟩) np1 cp1) ∧ w'.cell? ⟨bp, op + t * 3 + 1, none⟩ = some (.bool sc) ∧ w'.cell? ⟨bp, op + t * 3 + 2, none⟩ = some (.slice ac lc cc) ∧ Below w3.heap.size w3 w')) (by kernel_rfl) (sk9 y x1 x2 (grow_drew kr3.out)) (fun hHeld => ?_)
      show wpAnyH _ _ _ _ _ 11 _ _ _
      have kW := grow_drew kr3.out
      have zQ := zgr.out.below (grow_drew (Below.refl wr.heap.size wr))
      have hQ := hgr.out.below (grow_drew (Below.refl wr.heap.size wr))
      generalize wr.drew = wQ at *
      refine wpAnyH_take (i := 1) (oi := ⟨some 57, _, _, _, _, _⟩) (v := ?_) rfl (by kernel_rfl) (by kernel_rfl) (by kernel_rfl) (fun _ _ _ h => by cases h.1) (Or.inl ⟨by rfl, ?_⟩) (by assumption) ?_
      rotate_left
      ·intro wq hSw; (try dsimp only at hSw); go_simp; (try with_reducible rfl)
      (try simp only [Act.put, List.setIfInBounds_toArray, List.set_cons_zero, List.set_cons_succ])
      refine wpAnyH_take (i := 2) (oi := ⟨some 58, _, _, _, _, _⟩) (v := ?_) rfl (by kernel_rfl) (by kernel_rfl) (by kernel_rfl) (fun _ _ _ h => by cases h.1) (Or.inl ⟨by rfl, ?_⟩) (by assumption) ?_
      rotate_left
      ·intro wq hSw; (try dsimp only at hSw); go_simp; (try with_reducible rfl)
      (try simp only [Act.put, List.setIfInBounds_toArray, List.set_cons_zero, List.set_cons_succ])
      refine wpAnyH_take (i := 3) (oi := ⟨some 59, _, _, _, _, _⟩) (v := ?_) rfl (by kernel_rfl) (by kernel_rfl) (by kernel_rfl) (fun _ _ _ h => by cases h.1) (Or.inl ⟨by rfl, ?_⟩) (by assumption) ?_
      rotate_left
      ·intro wq hSw; (try dsimp only at hSw); go_simp; (try with_reducible rfl)
      (try simp only [Act.put, List.setIfInBounds_toArray, List.set_cons_zero, List.set_cons_succ])
      refine wpAnyH_take (i := 4) (oi := ⟨some 60, _, _, _, _, _⟩) (v := ?_) rfl (by kernel_rfl) (by kernel_rfl) (by kernel_rfl) (fun _ _ _ h => by cases h.1) (Or.inl ⟨by rfl, ?_⟩) (by assumption) ?_
      rotate_left
      ·intro wq hSw; (try dsimp only at hSw); go_simp; (try with_reducible rfl)
      (try simp only [Act.put, List.setIfInBounds_toArray, List.set_cons_zero, List.set_cons_succ])
      refine wpAnyH_take (i := 5) (oi := ⟨some 61, _, _, _, _, _⟩) (v := ?_) rfl (by kernel_rfl) (by kernel_rfl) (by kernel_rfl) (fun _ _ _ h => by cases h.1) (Or.inl ⟨by rfl, ?_⟩) (by assumption) ?_
      rotate_left
      ·intro wq hSw; (try dsimp only at hSw); go_simp; (try with_reducible rfl)
      (try simp only [Act.put, List.setIfInBounds_toArray, List.set_cons_zero, List.set_cons_succ])
      refine wpAnyH_take (i := 6) (oi := ⟨some 62, _, _, _, _, _⟩) (v := ?_) rfl (by kernel_rfl) (by kernel_rfl) (by kernel_rfl) (fun _ _ _ h => by cases h.1) (Or.inl ⟨by rfl, ?_⟩) (by assumption) ?_
      rotate_left
      ·intro wq hSw; (try dsimp only at hSw); go_simp; (try with_reducible rfl)
      (try simp only [Act.put, List.setIfInBounds_toArray, List.set_cons_zero, List.set_cons_succ])
      refine wpAnyH_take (i := 7) (oi := ⟨some 63, _, _, _, _, _⟩) (v := ?_) rfl (by kernel_rfl) (by kernel_rfl) (by kernel_rfl) (fun _ _ _ h => by cases h.1) (Or.inl ⟨by rfl, ?_⟩) (by assumption) ?_
      rotate_left
      ·intro wq hSw; (try dsimp only at hSw); go_simp; (try with_reducible rfl)
      (try simp only [Act.put, List.setIfInBounds_toArray, List.set_cons_zero, List.set_cons_succ])
      refine wpAnyH_ready (rs := [0]) (by kernel_rfl) (by simp) ?_
      refine AllReadyH.cons (o := ⟨some 56, _, _, _, _, _⟩) rfl (fun K hK => ?_) ?_
      ·skip
       have f0 := zQ.c0
       have f1 := zQ.c1
       go_simp
       refine hK.out _ _ ?_ ?_
       ·(try dsimp only); exact sk9 y x1 x2 kW
       clear hK K hHeld; intro hHeld
       (try simp only [Act.put, List.setIfInBounds_toArray, List.set_cons_zero, List.set_cons_succ])
       refine wpAnyH_ready (rs := [8]) (by kernel_rfl) (by simp) ?_
       refine AllReadyH.cons (o := ⟨some 64, _, _, _, _, _⟩) rfl (fun K hK => ?_) ?_
       ·have kL := below_alloc (wQ) (.cells #[.bool sg, .slice ag lg cg, .bool sc, .slice ac lc cc] 24)
        have zQ := zQ.below kL
        have hQ := hQ.below kL
        have zR : G2 ((wQ).alloc (.cells #[.bool sg, .slice ag lg cg, .bool sc, .slice ac lc cc] 24)) (wQ.heap.size) sg ag lg cg sc ac lc cc := heap_alloc_new _ _
        have hbR : w3.heap.size ≤ wQ.heap.size := kW.size
        have kW := grow_step kL kW
        go_simp
        refine hK.out _ _ ?_ ?_
        ·(try dsimp only); exact sk9 y x1 x2 kW
        clear hK K hHeld; intro hHeld
        (try simp only [Act.put, List.setIfInBounds_toArray, List.set_cons_zero, List.set_cons_succ])
        generalize (wQ).alloc (.cells #[.bool sg, .slice ag lg cg, .bool sc, .slice ac lc cc] 24) = wLzR at *
        refine wpAnyH_ready (rs := [9]) (by kernel_rfl) (by simp) ?_
        refine AllReadyH.cons (o := ⟨some 65, _, _, _, _, _⟩) rfl (fun K hK => ?_) ?_
        ·go_simp
         go_at_call 36; refine Calls.mono (gcd2_n zR hQ.zm (hzc3.zm.below kW) (by omega) (by omega)) ?_; rintro e wB ⟨sN, aN, lN, cN, rfl, hN, kB⟩; rw [Int.natAbs_natCast] at hN
         have zQ := zQ.below kB
         have hQ := hQ.below kB
         have zR := zR.below kB
         have kW := grow_step kB kW
         (try go_wp2_with fail)
         refine hK.out _ _ ?_ ?_
         ·(try dsimp only); exact sk9 y x1 x2 kW
         clear hK K hHeld; intro hHeld
         (try simp only [Act.put, List.setIfInBounds_toArray, List.set_cons_zero, List.set_cons_succ])
         refine wpAnyH_ready (rs := [10]) (by kernel_rfl) (by simp) ?_
         refine AllReadyH.cons (o := ⟨none, _, _, _, _, _⟩) rfl (fun K hK => ?_) ?_
         ·skip
          have f0 := zQ.c0
          have f1 := zQ.c1
          have f2 := zQ.f 0
          have f3 := zQ.f 1
          go_simp
          have hN := zb_zn zQ hN sN aN lN cN
          have zQ := zb_fin zQ sN aN lN cN
          have kW := (kW.setCell (p := ⟨bg, 0, none⟩) hbge (.bool sN)).setCell (p := ⟨bg, 1, none⟩) hbge (.slice aN lN cN)
          refine hK.out _ _ ?_ ?_
          ·(try dsimp only); exact sk9 y x1 x2 kW
          clear hK K hHeld; intro hHeld
          (try simp only [Act.put, List.setIfInBounds_toArray, List.set_cons_zero, List.set_cons_succ])
          refine wpAnyH_done (by kernel_rfl) ?_ _
          exact ⟨rfl, _, sN, aN, lN, cN, rfl, zQ, hN, kW⟩
         exact AllReadyH.nil
        exact AllReadyH.nil
       exact AllReadyH.nil
      exact AllReadyH.nil
     rintro e a' W9 ⟨rfl, bR, sN, aN, lN, cN, rfl, zN, hN, kN⟩
     have hN1 : lN ≤ lc := hN.len_le hzc3.zm.nm (by
      rw [Int.natAbs_natCast]
      exact_mod_cast Nat.gcd_le_right _ (Int.natAbs_pos.2 hnz.out))
     have yN := y.below kN
     have x1N := (kN.cell (p := ⟨bp, op + t * 3 + 1, none⟩) hbp).trans x1
     have x2N := (kN.cell (p := ⟨bp, op + t * 3 + 2, none⟩) hbp).trans x2
     have v3 := yN.c3
     have hzcN := hzc3.below kN
     go_wp2_with fail
     refine (zsign_n hzcN.zm (by omega)).mono ?_
     rintro e WA ⟨rfl, kA⟩
     have kW := grow_step kA kN
     have yA := y.below kW
     have x1A := (kW.cell (p := ⟨bp, op + t * 3 + 1, none⟩) hbp).trans x1
     have x2A := (kW.cell (p := ⟨bp, op + t * 3 + 2, none⟩) hbp).trans x2
     have zA := zN.below kA
     have hA := hN.below kA
     have hzA := hzc3.below kW
     have hdA := hz1.below kW
     clear v3 x1N x2N kA kN yN zN hN hzcN
     have v3 := yA.c3
     generalize hcs : cmpI pc 0 = cs at *
     replace hcs := hide hcs
     go_wp2_with fail
     obtain ⟨cm, hcm⟩ : ∃ cm, Hid (cmpI pc fd = cm) := ⟨_, rfl⟩
     go_region_held3 (fun w' => w'.cell? ⟨bn, 1, none⟩ = some (.bool sd1) ∧ w'.cell? ⟨bn, 2, none⟩ = some (.slice ad1 ld1 cd1) ∧ w'.cell? ⟨bn, 3, none⟩ = some (.slice (some ⟨bp, op, none⟩) np1 cp1) ∧ w'.cell? ⟨bp, op + t * 3 + 1, none⟩ = some (.bool sc) ∧ w'.cell? ⟨bp, op + t * 3 + 2, none⟩ = some (.slice ac lc cc) ∧ Below WA.heap.size WA w')
      ((refine sk10 yA x1A x2A ?_; (repeat' (first | with_reducible exact Below.refl _ _ | with_reducible assumption | with_reducible refine grow_step (by with_reducible assumption) ?_ | with_reducible refine grow_drew ?_ | with_reducible refine grow_alloc ?_ _ | with_reducible refine grow_drewN ?_ _))))
      ((go_at_call 38; with_reducible refine (zcmp_n (Zn.zm (Zn.below hzA (by (repeat' (first | with_reducible exact Below.refl _ _ | with_reducible assumption | with_reducible refine grow_step (by with_reducible assumption) ?_ | with_reducible refine grow_drew ?_ | with_reducible refine grow_alloc ?_ _ | with_reducible refine grow_drewN ?_ _))))) (Zn.zm (Zn.below hdA (by (repeat' (first | with_reducible exact Below.refl _ _ | with_reducible assumption | with_reducible refine grow_step (by with_reducible assumption) ?_ | with_reducible refine grow_drew ?_ | with_reducible refine grow_alloc ?_ _ | with_reducible refine grow_drewN ?_ _))))) (by omega) (by omega)).mono ?_; rintro e WB ⟨rfl, hgB⟩; rw [hcm.out]))
     rename_i hH
     have kH := hH.2.2.2.2.2
     have yB := yA.below kH
     have zB := zA.below kH
     have hB := hA.below kH
     have kF := hide (grow_step kH kW)
     clear hH kH hgB hzA hdA yA zA hA x1A x2A v3 kW
     have v0 := yB.c0
     have hfin : Hid (Zn WB sN aN lN cN ((gcdL fd.natAbs (fps.take (t + 1)) : Nat) : Int)) := by rw [hstep.out]; exact hB
     have kF2 : Hid (Below bg w3 WB) := (hbg.out ▸ kF.out : Below bg w3 WB)
     by_cases hf2 : fk = 2
     ·subst hf2
      go_wp2
      go_round
      case rel => exact ⟨t + 1, sN, aN, lN, cN, by omega, by go_num, zB, hfin.out, by omega, kF2.out⟩
      case measure => simp [intOf]; omega
     ·have i2 : (fk == 2) = false := by rw [beq_eq_false_iff_ne]; exact hf2
      obtain ⟨r1, r2⟩ := hrq.out hf2
      obtain rfl : cs = 1 := by rw [← hcs.out]; exact cmpI_gt r1
      obtain rfl : cm = -1 := by rw [← hcm.out]; exact cmpI_lt r2
      go_wp2
      all_goals first
       | exact absurd rfl hf2
       | exact ⟨⟨t + 1, sN, aN, lN, cN, by omega, by go_num, zB, hfin.out, by omega, kF2.out⟩, by simp [intOf]; omega⟩
    ·obtain rfl : t = np1 := by omega
     have hlen : fps.length = t := hPn1.1
     have hg1 : Hid (((gcdL fd.natAbs (fps.take t) : Nat) : Int) = 1) := (show _ = _ by rw [List.take_of_length_le (by omega), hone.out]; rfl)
     have htpos : 0 < t := by
      rcases Nat.eq_zero_or_pos t with h0 | h0
      ·exact absurd (List.length_eq_zero_iff.1 (hlen.trans h0)) hsome.out
      ·exact h0
     rw [hg1.out] at hgr
     have g0 := zgr.out.c0
     have g1 := zgr.out.c1
     have zgo := zgr.out
     have hgo := hgr.out
     have hPr := hPn1.below kr3.out
     have hkr := hk1.below kr3.out
     have kT := hide (grow_step kr3.out k2.out)
     clear hPn1 hk1 hz1
     go_wp2_with fail
     go_region_held3 (fun w' => w'.cell? ⟨bg, 0, none⟩ = some (.bool sg) ∧ w'.cell? ⟨bg, 1, none⟩ = some (.slice ag lg cg) ∧ Below wr.heap.size wr w')
      ((refine zq2 zgo ?_; (repeat' (first | with_reducible exact Below.refl _ _ | with_reducible assumption | with_reducible refine grow_step (by with_reducible assumption) ?_ | with_reducible refine grow_drew ?_ | with_reducible refine grow_alloc ?_ _ | with_reducible refine grow_drewN ?_ _))))
      (first | (go_at_call 39; with_reducible refine (zof_n 1 (by decide) (by decide) _).mono ?_; rintro e w5 ⟨s5, a5, l5, c5, rfl, z5, hg5, hl5⟩) | (go_at_call 38; with_reducible refine (zcmp_n (Zn.zm (Zn.below hgo (by (repeat' (first | with_reducible exact Below.refl _ _ | with_reducible assumption | with_reducible refine grow_step (by with_reducible assumption) ?_ | with_reducible refine grow_drew ?_ | with_reducible refine grow_alloc ?_ _ | with_reducible refine grow_drewN ?_ _))))) (Zn.zm (Zn.below z5 (by (repeat' (first | with_reducible exact Below.refl _ _ | with_reducible assumption | with_reducible refine grow_step (by with_reducible assumption) ?_ | with_reducible refine grow_drew ?_ | with_reducible refine grow_alloc ?_ _ | with_reducible refine grow_drewN ?_ _))))) (by omega) (by omega)).mono ?_; rintro e w6 ⟨rfl, hg6⟩; rw [show cmpI 1 1 = 0 from rfl]))
     rename_i hH
     have kH := hH.2.2
     replace yr := yr.below kH
     replace hPr := hPr.below kH
     replace hkr := hkr.below kH
     replace kT := hide (grow_step kH kT.out)
     clear hH hg5 hg6 kH zgo hgo g0 g1 v3 zgr hgr
     have v3 := yr.c3
     have v4 := yr.c4
     have v5 := yr.c5
     obtain ⟨X, hX, hVX⟩ := pn_px hPr hstd.out
     obtain ⟨xs, hrd, hst, -⟩ := hkr.stands
     go_wp2_with fail
     refine (tvalid_n hX hrd (by omega) (by omega)).mono ?_
     rintro e w7 ⟨b7, rfl, hb7, k7⟩
     obtain rfl := hb7.2 ⟨hVX, hst⟩
     replace yr := yr.below k7
     replace hX := hX.below k7
     replace hrd := hrd.below k7
     replace kT := hide (grow_step k7 kT.out)
     clear k7 hb7 v3 v4 v5 hPr hkr
     have v3 := yr.c3
     have v4 := yr.c4
     have v5 := yr.c5
     go_wp2_with fail
     refine (rvalid5_n hX hrd hlk1 (by omega) (by omega)).mono ?_
     rintro e w8 ⟨b8, rfl, hb8, k8⟩
     obtain rfl := hb8.2 ⟨hVX, hst⟩
     replace yr := yr.below k8
     replace kT := hide (grow_step k8 kT.out)
     clear k8 hb8 v3 v4 v5 hX hrd
     have v3 := yr.c3
     go_wp2
     go_ret
     exact ⟨rfl, kT.out⟩
end Go.Proofs.YtjlkmjonadkkdaaGreatDoor
