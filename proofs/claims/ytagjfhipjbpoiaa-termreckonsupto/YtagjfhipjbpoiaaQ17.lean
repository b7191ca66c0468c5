/-
 Several texts in one: YE, YF, YG, YH, YT, YI, A0, BA.
-/
import Derived.Test.YtagjfhipjbpoiaaQ16
import Derived.Test.YtagjfhipjbpoiaaQ09
import Derived.Test.YtagjfhipjbpoiaaQ12
namespace Go.Proofs.Ytagjfhipjbpoiaa
open Go.RowKit Go.Sort Go.Shelf
open Tm

def val1 (vs : List (Int × Int)) (v : Int) : Int := (fv vs v).getD 0
/-- every variable of the parts has a value -/
def Tot (ps vs : List (Int × Int)) : Prop := ∀ v, csum ps v ≠ 0 → fv vs v ≠ none

theorem noU_nocell {w : World} {b : Nat} (h : ∀ off, w.cell? ⟨b, off, none⟩ = none) : NoU w b := fun off x => by rw [h]; simp
theorem zb_noU {w : World} {b : Nat} {s : Bool} {a : Option Addr} {l c : Nat} (h : ZB w b s a l c) : NoU w b := by
 intro off x
 rw [cell_of_row w b off _ _ (0, 0) h]
 match off with
 | 0 => simp
 | 1 => simp
 | k + 2 => simp
theorem rng_noU {w : World} {b r n : Nat} {D : DataW Value} {left : Lit → Bool} {cnt : Nat} (h : w.ranges Try.prog 3 elemR b r n D left cnt) : NoU w r := by
 obtain ⟨_, _, _, _, _, _, _, _, _, hit, _⟩ := h
 refine noU_nocell fun off => ?_
 simp [World.cell?, hit]
theorem FM.grownU {w w' : World} {m n b : Nat} {vs : List (Int × Int)} {B : Nat} (h : FM w m n vs B) (hg : w.grownBy w' (some b)) (hb : NoU w b) (hm : m ≠ b) : FM w' m n vs B := by
 obtain ⟨D, h1, h2⟩ := h
 refine ⟨D, h1.kept hg (by simpa using hm), fun v hv => ?_⟩
 rcases h2 v hv with h3 | ⟨s, a, l, c, z, h3, h4, h5⟩
 ·exact .inl h3
 ·exact .inr ⟨s, a, l, c, z, h3, h4.grownU hg hb, h5⟩
theorem GA.grownU {w w' : World} {D : DataW Value} {f : Int → Int} {B b : Nat} (h : GA w D f B) (hg : w.grownBy w' (some b)) (hb : NoU w b) : GA w' D f B := h.kept fun _ _ _ _ _ hz => hz.grownU hg hb
theorem GA.below {w w' : World} {D : DataW Value} {f : Int → Int} {B : Nat} (h : GA w D f B) (hb : Below w.heap.size w w') : GA w' D f B := h.kept fun _ _ _ _ _ hz => hz.below hb

def keep (left : Lit → Bool) (ps : List (Int × Int)) : List (Int × Int) := ps.filter fun p => left (.int .i64 p.1)
theorem csum_keep (left : Lit → Bool) (ps : List (Int × Int)) (v : Int) : csum (keep left ps) v = if left (.int .i64 v) = true then csum ps v else 0 := by
 induction ps with
 | nil => simp [keep, csum]
 | cons p ps ih =>
  unfold keep at *
  by_cases h : left (.int .i64 p.1) = true
  ·rw [List.filter_cons_of_pos (by simpa using h)]
   simp only [csum, ih]
   by_cases e : p.1 = v
   ·subst e; simp [h]
   ·simp [e]
  ·rw [List.filter_cons_of_neg (by simpa using h), ih]
   by_cases e : p.1 = v
   ·subst e; simp [h]
   ·simp [csum, e]
theorem keep_step (left : Lit → Bool) (ps : List (Int × Int)) (v : Int) (hv : left (.int .i64 v) = true) (f : Int → Int) :
  ev (keep left ps) f = csum ps v * f v + ev (keep (fun z => left z && !z.sameKey (.int .i64 v)) ps) f := by
 rw [ev_split v (keep left ps), csum_keep, if_pos hv]
 congr 2
 unfold keep wo
 rw [List.filter_filter]
 congr 1
 funext p
 dsimp only
 rw [sameKey_i, Bool.and_comm]
theorem keep_start {w : World} {D : DataW Value} {ps : List (Int × Int)} {B : Nat} (h : GA w D (csum ps) B) (hi : ∀ p ∈ ps, I64 p.1) (f : Int → Int) : ev (keep (Maps.has D) ps) f = ev ps f := by
 refine ev_congr (fun v => ?_) f
 rw [csum_keep]
 split
 ·rfl
 ·rename_i hh
  by_cases hv : I64 v
  ·rcases h v hv with ⟨_, h2⟩ | ⟨s, a, l, c, h2, _⟩
   ·exact h2.symm
   ·exact absurd (Maps.has_true_of_atKey h2) hh
  ·exact (csum_i64 hi hv).symm
theorem keep_end {left : Lit → Bool} (h : ∀ kl, left kl = false) (ps : List (Int × Int)) (f : Int → Int) : ev (keep left ps) f = 0 := by
 have : keep left ps = [] := by
  unfold keep
  rw [List.filter_eq_nil_iff]
  intro p _
  simp [h]
 rw [this]; rfl

/-- what the loop of Eval has done -/
def Ev (ps vs : List (Int × Int)) (k : Int) (left : Lit → Bool) (z : Int) : Prop := z + ev (keep left ps) (val1 vs) = k + ev ps (val1 vs) ∧ ∀ v, I64 v → left (.int .i64 v) = false → csum ps v ≠ 0 → fv vs v ≠ none
theorem ev_begin {w : World} {D : DataW Value} {ps vs : List (Int × Int)} {B : Nat} (h : GA w D (csum ps) B) (hi : ∀ p ∈ ps, I64 p.1) (k : Int) : Ev ps vs k (Maps.has D) k := by
 refine ⟨by rw [keep_start h hi], fun v hv hl hc => ?_⟩
 rcases h v hv with ⟨_, h2⟩ | ⟨s, a, l, c, h2, _⟩
 ·exact absurd h2 hc
 ·rw [Maps.has_true_of_atKey h2] at hl; cases hl
theorem ev_skip {ps vs : List (Int × Int)} {k : Int} {left : Lit → Bool} {z v : Int} (h : Ev ps vs k left z) (hl : left (.int .i64 v) = true) (hc : csum ps v = 0) : Ev ps vs k (fun z => left z && !z.sameKey (.int .i64 v)) z := by
 refine ⟨?_, fun u hu hlu hcu => ?_⟩
 ·have := h.1
  rw [keep_step left ps v hl, hc, Int.zero_mul, Int.zero_add] at this
  exact this
 ·by_cases e : u = v
  ·subst e; exact absurd hc hcu
  ·dsimp only at hlu
   rw [sameKey_i] at hlu
   simp [e] at hlu
   exact h.2 u hu hlu hcu
theorem ev_add {ps vs : List (Int × Int)} {k : Int} {left : Lit → Bool} {z v y : Int} (h : Ev ps vs k left z) (hl : left (.int .i64 v) = true) (hf : fv vs v = some y) : Ev ps vs k (fun z => left z && !z.sameKey (.int .i64 v)) (z + csum ps v * y) := by
 refine ⟨?_, fun u hu hlu hcu => ?_⟩
 ·have := h.1
  rw [keep_step left ps v hl] at this
  have e : val1 vs v = y := by simp [val1, hf]
  rw [e] at this
  omega
 ·by_cases e : u = v
  ·subst e; rw [hf]; simp
  ·dsimp only at hlu
   rw [sameKey_i] at hlu
   simp [e] at hlu
   exact h.2 u hu hlu hcu
theorem ev_finish {ps vs : List (Int × Int)} {k : Int} {left : Lit → Bool} {z : Int} (h : Ev ps vs k left z) (hl : ∀ kl, left kl = false) (hi : ∀ p ∈ ps, I64 p.1) : Tot ps vs ∧ z = k + ev ps (val1 vs) := by
 refine ⟨fun v hc => ?_, ?_⟩
 ·by_cases hv : I64 v
  ·exact h.2 v hv (hl _) hc
  ·exact absurd (csum_i64 hi hv) hc
 ·have := h.1
  rw [keep_end hl, Int.add_zero] at this
  exact this

theorem zg2 {wb w' : World} {p q u l1 c1 l2 c2 : Nat} {s1 s2 : Bool} {a1 a2 : Option Addr} (x : ZB wb p s1 a1 l1 c1) (x2 : ZB wb q s2 a2 l2 c2) (hp : u ≠ p) (hq : u ≠ q) (k : wb.grownBy w' (some u)) :
  w'.cell? ⟨p, 0, none⟩ = some (.bool s1) ∧ w'.cell? ⟨p, 1, none⟩ = some (.slice a1 l1 c1) ∧ w'.cell? ⟨q, 0, none⟩ = some (.bool s2) ∧ w'.cell? ⟨q, 1, none⟩ = some (.slice a2 l2 c2) ∧ wb.grownBy w' (some u) := by
 have x' := x.grown k (Ne.symm hp)
 have x2' := x2.grown k (Ne.symm hq)
 exact ⟨x'.c0, x'.c1, x2'.c0, x2'.c1, k⟩
theorem zb_set (w : World) (b : Nat) (v0 v1 : Value) : w.grownBy ((w.setCell ⟨b, 0, none⟩ v0).setCell ⟨b, 1, none⟩ v1) (some b) := gb_trans (gb_set _ _ _ _) (gb_set _ _ _ _)

set_option maxRecDepth 100000 in
set_option maxHeartbeats 6400000 in
theorem eval_n {w : World} {ad : Option Addr} {n cp : Nat} {s : Bool} {a : Option Addr} {l c : Nat} {ps : List (Int × Int)} {k : Int} {ad2 : Option Addr} {n2 cp2 : Nat} {vs : List (Int × Int)} {B : Nat} (hP : Pr w ad n ps B) (hz : Zm w s a l c k) (hl : l ≤ B) (hV : Pr w ad2 n2 vs B) (hB : B + n + n2 ≤ 268435456) :
  Calls Try.prog 43 #[.agg #[.slice ad n cp, .bool s, .slice a l c], .slice ad2 n2 cp2] w fun e w' => ∃ s' a' l' c' er, e = .returned (.tuple #[.agg #[.bool s', .slice a' l' c'], .int .i64 er]) ∧ Below w.heap.size w w' ∧ ((¬ Tot ps vs ∧ er = 170 ∧ s' = false ∧ a' = none ∧ l' = 0 ∧ c' = 0) ∨ (Tot ps vs ∧ er = 0 ∧ Zn w' s' a' l' c' (k + ev ps (val1 vs)) ∧ l' ≤ 2 * B + 2 * n + 1)) := by
 have hi := hP.i64
 go_enter Try.func43, Try.ntmps43
 go_wp2_with fail
 have x := (tb_new w ad n cp s a l c).below (below_alloc _ (.cells #[.bool false, .slice none 0 0] 25))
 have y := zb_new (w.alloc (.cells #[.slice ad n cp, .bool s, .slice a l c] 27)) false none 0 0
 have b0 : Below w.heap.size w ((w.alloc (.cells #[.slice ad n cp, .bool s, .slice a l c] 27)).alloc (.cells #[.bool false, .slice none 0 0] 25)) := below_alloc' (below_alloc _ _) _
 rw [show (w.alloc (.cells #[.slice ad n cp, .bool s, .slice a l c] 27)).heap.size = w.heap.size + 1 from by simp] at y
 generalize (w.alloc (.cells #[.slice ad n cp, .bool s, .slice a l c] 27)).alloc (.cells #[.bool false, .slice none 0 0] 25) = wb at *
 have hpr : w.heap.size < w.heap.size + 1 := by omega
 replace hP := hP.below b0
 replace hz := hz.below b0
 replace hV := hV.below b0
 generalize hp : w.heap.size = p at *
 replace b0 : Hid (Below w.heap.size w wb) := hp ▸ b0
 replace hp := hide hp
 generalize p + 1 = r at *
 refine (first_n hV (by omega)).mono ?_
 rintro e w1 ⟨m1, rfl, hF, k1, hm1⟩
 have x1 := x.below k1
 have y1 := y.below k1
 have hrm : r < m1 := Nat.lt_of_lt_of_le y.lt hm1
 replace hP := hP.below k1
 replace hz := hz.below k1
 replace b0 := hide (grow_step k1 b0.out)
 have t0 := x1.c0
 have t1 := x1.c1
 have t2 := x1.c2
 clear k1 x y hV hm1
 go_wp2_with fail
 refine (norm_n hz (by omega)).mono ?_
 rintro e w2 ⟨s2, a2, l2, c2, rfl, hz2, k2, hl2⟩
 have x2 := x1.below k2
 have y2 := y1.below k2
 have z2 := zb_new w2 s2 a2 l2 c2
 have ka := below_alloc w2 (.cells #[.bool s2, .slice a2 l2 c2] 25)
 have k2a := grow_step ka k2
 have t3 := x2.c0
 have hxl := x2.lt
 clear t0 t1 t2
 go_wp2_with fail
 have kb := below_alloc (w2.alloc (.cells #[.bool s2, .slice a2 l2 c2] 25)) (.cells #[.slice ad n cp] 22)
 refine (gather1 (b := w2.heap.size + 1) (by simpa using heap_alloc_new (w2.alloc (.cells #[.bool s2, .slice a2 l2 c2] 25)) (.cells #[.slice ad n cp] 22)) ((hP.below k2a).below kb) (by omega)).mono ?_
 rintro e w3 ⟨m2, rfl, ⟨D, hown, hGA⟩, k3, hm2⟩
 replace k3 := grow_step k3 kb
 have hm2' : w2.heap.size < m2 := by simp at hm2; omega
 have y3 := ((y2.below ka).below k3)
 have z3 := z2.below k3
 have hF3 := ((hF.below k2).below ka).below k3
 have hz3 := (hz2.below ka).below k3
 have hrel0 : r < m1 ∧ m1 < w2.heap.size ∧ w2.heap.size < m2 ∧ m2 < w3.heap.size := ⟨hrm, Nat.lt_of_lt_of_le hF.lt k2.size, hm2', hown.lt⟩
 have b3 := hide (grow_step k3 (grow_step ka (grow_step k2 b0.out)))
 clear hP hz b0 hF x1 y1 k2 x2 y2 z2 ka k2a hz2 kb k3 hm2 hm2' t3 hxl hrm
 go_wp2_with (at_range; refine wpList_range_own _ rfl _ 66 rfl 3 25 tk Try.underlying66 _ m2 n D rfl hown ?_; intro w4 hrg0 hg0 hs0)
 go_frame
 have k4 := gb_none hg0
 have y4 := y3.below k4
 have z4 := z3.below k4
 have hF4 := hF3.below k4
 have hz4 := hz3.below k4
 have hGA4 := hGA.below k4
 have hsz0 := hrg0.owns.size_le
 replace b3 := hide (grow_step k4 b3.out)
 clear hg0 k4 y3 z3 hF3 hz3 hGA hown hs0
 generalize w2.heap.size = u at *
 generalize w3.heap.size = rI at *
 replace hrel0 := hide hrel0
 go_loopw [8] (fun _ wr => ∃ (s1 : Bool) (a1 : Option Addr) (l1 c1 : Nat) (z : Int) (left : Lit → Bool) (cnt : Nat), wr.ranges Try.prog 3 elemR m2 rI n D left cnt ∧ ZB wr u s1 a1 l1 c1 ∧ Zn wr s1 a1 l1 c1 z ∧ l1 + cnt ≤ 2 * B + 2 * n + 1 ∧ ZB wr r false none 0 0 ∧ FM wr m1 n2 vs B ∧ GA wr D (csum ps) (B + n) ∧ Hid (Ev ps vs k left z) ∧ Hid (Below w.heap.size w wr) ∧ cnt ≤ n) (fun _ wr => wr.rangeLeft m2 rI)
 case atStart => exact ⟨s2, a2, l2, c2, k, _, _, hrg0, z4, hz4, by omega, y4, hF4, hGA4, ev_begin hGA4 hi k, b3, hsz0⟩
 case round =>
  obtain ⟨s1, a1, l1, c1, z, left, cnt, hrg, hu, hzr, hlr, hy, hFr, hGr, hE, kr, hcn⟩ := hrel
  have u0 := hu.c0
  have u1 := hu.c1
  have v0 := hy.c0
  have v1 := hy.c1
  have v2 := hy.f 0
  have v3 := hy.f 1
  go_wp2_with (at_next; refine wpList_next_z rfl _ rfl m2 rI n D left cnt rfl hrg (fun hl0 => ?_) (fun v s3 a3 l3 c3 w5 cnt2 hv hlk hat hrg2 hlt hgr hen => ?_))
  ·refine bodyPost_ret (results_ct rfl _ _ r 25 _ (0, 0) _ rfl (zb_fin hy s1 a1 l1 c1) Try.underlying25 rfl (by kernel_rfl)) rfl ?_
   obtain ⟨hT, rfl⟩ := ev_finish hE.out hl0 hi
   have hrw : w.heap.size ≤ r := by have := hp.out; omega
   exact ⟨s1, a1, l1, c1, 0, by simp, (kr.out.setCell hrw _).setCell hrw _, .inr ⟨hT, rfl, zb_zn hy hzr _ _ _ _, by omega⟩⟩
  ·have hwI : w.heap.size ≤ rI := by have := hp.out; have := hrel0.out; omega
   have hnI := rng_noU hrg
   have hu5 := hu.grown hgr (by have := hrel0.out; omega)
   have hzr5 := hzr.grownU hgr hnI
   have hy5 := hy.grown hgr (by have := hrel0.out; omega)
   have hF5 := hFr.grownU hgr hnI (by have := hrel0.out; omega)
   have hG5 := hGr.grownU hgr hnI
   have hB5 := hide (below_grown kr.out hgr hwI)
   have hZ : Zn w5 s3 a3 l3 c3 (csum ps v) ∧ l3 ≤ B + n := by
    rcases hG5 v hv with ⟨h1, _⟩ | ⟨s', a', l', c', h1, h2, h3⟩
    ·rw [Maps.has_true_of_atKey hat] at h1; cases h1
    ·have := (hat (.held (.bool true))).symm.trans (h1 _)
     simp at this
     obtain ⟨rfl, rfl, rfl, rfl⟩ := this
     exact ⟨h2, h3⟩
   obtain ⟨hZ, hl3⟩ := hZ
   have kb := below_alloc w5 (.cells #[.bool s3, .slice a3 l3 c3] 25)
   have xc := zb_new w5 s3 a3 l3 c3
   clear hu hy u0 u1 v0 v1 v2 v3 kr hFr hGr hzr hgr hnI hen
   refine (zsign_n (hZ.below kb).zm (by omega)).mono ?_
   rintro e w6 ⟨rfl, k6⟩
   replace xc := xc.below k6
   replace k6 := grow_step k6 kb
   have hrg6 := hrg2.kept (bg k6) (by simp) (by simp)
   have hu6 := hu5.below k6
   have hzr6 := hzr5.below k6
   have hy6 := hy5.below k6
   have hF6 := hF5.below k6
   have hG6 := hG5.below k6
   have hB6 := hide (grow_step k6 hB5.out)
   have hZ6 := hZ.below k6
   have huq : u ≠ w5.heap.size := Nat.ne_of_lt hu5.lt
   clear hu5 hzr5 hy5 hF5 hG5 hB5 hZ kb k6 hrg2
   generalize w5.heap.size = q3 at *
   by_cases hc0 : csum ps v = 0
   ·have e0 : cmpI (csum ps v) 0 = 0 := cmpI_eq hc0
    rw [e0]
    go_wp2_with fail
    exact ⟨⟨s1, a1, l1, c1, z, _, cnt2, hrg6, hu6, hzr6, by omega, hy6, hF6, hG6, ev_skip hE.out hlk hc0, hB6, by omega⟩, by rw [hrg6.left_eq, hrg.left_eq]; exact hlt⟩
   ·have e0 : cmpI (csum ps v) 0 ≠ 0 := by unfold cmpI; split <;> (try split) <;> omega
    generalize cmpI (csum ps v) 0 = sgn at *
    obtain ⟨s4, a4, l4, c4, ok, hlook, hok⟩ := hF6.look hv
    rcases hok with ⟨rfl, hf⟩ | ⟨rfl, y, hzy, hf, hl4⟩
    ·have v0 := hy6.c0
     have v1 := hy6.c1
     have v2 := hy6.f 0
     have v3 := hy6.f 1
     have hrl := hy6.lt
     go_wp2
     refine bodyPost_ret (results_ct rfl _ _ r 25 _ (0, 0) _ rfl ((zb_fin hy6 false none 0 0).below (below_alloc _ (.cells #[.bool s4, .slice a4 l4 c4] 25))) Try.underlying25 rfl (by kernel_rfl)) rfl ?_
     have hrw : w.heap.size ≤ r := by have := hp.out; omega
     exact ⟨false, none, 0, 0, 170, by simp, below_alloc' ((hB6.out.setCell hrw _).setCell hrw _) _, .inl ⟨fun hT => hT v hc0 hf, rfl, rfl, rfl, rfl, rfl⟩⟩
    ·have kc := below_alloc w6 (.cells #[.bool s4, .slice a4 l4 c4] 25)
     have xv := zb_new w6 s4 a4 l4 c4
     have xc7 := xc.below kc
     have hrg7 := hrg6.kept (bg kc) (by simp) (by simp)
     have hu7 := hu6.below kc
     have hzr7 := hzr6.below kc
     have hy7 := hy6.below kc
     have hF7 := hF6.below kc
     have hG7 := hG6.below kc
     have hB7 := hide (grow_step kc hB6.out)
     have hZ7 := hZ6.below kc
     have hzy7 := hzy.below kc
     have huv : u ≠ w6.heap.size := Nat.ne_of_lt hu6.lt
     clear hF6 hG6 hB6 hy6 hzr6 hrg6 kc hu6 hZ6 hzy xc
     go_wp2_with fail
     generalize w6.alloc (.cells #[.bool s4, .slice a4 l4 c4] 25) = wb at *
     generalize w6.heap.size = q4 at *
     have kd := grow_drew (Below.refl wb.heap.size wb)
     have hd : wb.grownBy wb.drew (some u) := ⟨rfl, rfl, rfl, Nat.le_refl _, fun _ _ _ => rfl⟩
     have u0 := hu7.c0
     have u1 := hu7.c1
     refine wp_region_held_drew (S := (fun w' => w'.cell? ⟨q3, 0, none⟩ = some (.bool s3) ∧ w'.cell? ⟨q3, 1, none⟩ = some (.slice a3 l3 c3) ∧ w'.cell? ⟨q4, 0, none⟩ = some (.bool s4) ∧ w'.cell? ⟨q4, 1, none⟩ = some (.slice a4 l4 c4) ∧ wb.grownBy w' (some u))) (by kernel_rfl) (zg2 xc7 xv huq huv hd) (fun hHeld => ?_)
     show wpAnyH _ _ _ _ _ 6 _ _ _
     refine wpAnyH_take (i := 1) (oi := ⟨some 40, _, _, _, _, _⟩) (v := ?_) rfl (by kernel_rfl) (by kernel_rfl) (by kernel_rfl) (fun _ _ _ h => h) (Or.inl ⟨by rfl, ?_⟩) (by assumption) ?_
     rotate_left
     ·intro wq hSw; (try dsimp only at hSw); go_simp; (try with_reducible rfl)
     (try simp only [Act.put, List.setIfInBounds_toArray, List.set_cons_zero, List.set_cons_succ])
     refine wpAnyH_take (i := 2) (oi := ⟨some 41, _, _, _, _, _⟩) (v := ?_) rfl (by kernel_rfl) (by kernel_rfl) (by kernel_rfl) (fun _ _ _ h => h) (Or.inl ⟨by rfl, ?_⟩) (by assumption) ?_
     rotate_left
     ·intro wq hSw; (try dsimp only at hSw); go_simp; (try with_reducible rfl)
     (try simp only [Act.put, List.setIfInBounds_toArray, List.set_cons_zero, List.set_cons_succ])
     refine wpAnyH_ready (rs := [0, 3]) (by kernel_rfl) (by simp) ?_
     refine AllReadyH.cons (o := ⟨some 39, _, _, _, _, _⟩) rfl (fun K hK => ?_) ?_
     ·go_simp
      refine hK.out _ _ ?_ ?_
      ·(try dsimp only); (refine zg2 xc7 xv huq huv ?_; assumption)
      clear hK K hHeld; intro hHeld
      (try simp only [Act.put, List.setIfInBounds_toArray, List.set_cons_zero, List.set_cons_succ])
      refine wpAnyH_ready (rs := [3]) (by kernel_rfl) (by simp) ?_
      refine AllReadyH.cons (o := ⟨some 42, _, _, _, _, _⟩) rfl (fun K hK => ?_) ?_
      ·go_simp
       go_at_call 48; refine (zmul_n (Zm.below hZ7.zm kd) (Zm.below hzy7 kd) (by omega) (by omega)).mono ?_; rintro e wM ⟨sM, aM, lM, cM, rfl, hzM, kM, hlM⟩; have hgM := gb_below hd kM; have kM' := grow_step kM kd; have uM := hu7.below kM'; have uM0 := uM.c0; have uM1 := uM.c1
       (try go_wp2_with fail)
       refine hK.out _ _ ?_ ?_
       ·(try dsimp only); (refine zg2 xc7 xv huq huv ?_; assumption)
       clear hK K hHeld; intro hHeld
       (try simp only [Act.put, List.setIfInBounds_toArray, List.set_cons_zero, List.set_cons_succ])
       refine wpAnyH_ready (rs := [4]) (by kernel_rfl) (by simp) ?_
       refine AllReadyH.cons (o := ⟨some 43, _, _, _, _, _⟩) rfl (fun K hK => ?_) ?_
       ·go_simp
        go_at_call 46; refine (zadd_n (Zm.below hzr7.zm kM') hzM.zm (by omega) (by omega)).mono ?_; rintro e wA ⟨sA, aA, lA, cA, rfl, hzA, kA, hlA⟩; have hgA := gb_below hgM kA; have uA := uM.below kA; have uA0 := uA.c0; have uA1 := uA.c1; have uA2 := uA.f 0; have uA3 := uA.f 1; have hg2 := gb_trans hgA (zb_set wA u (.bool sA) (.slice aA lA cA))
        (try go_wp2_with fail)
        refine hK.out _ _ ?_ ?_
        ·(try dsimp only); (refine zg2 xc7 xv huq huv ?_; assumption)
        clear hK K hHeld; intro hHeld
        (try simp only [Act.put, List.setIfInBounds_toArray, List.set_cons_zero, List.set_cons_succ])
        refine wpAnyH_ready (rs := [5]) (by kernel_rfl) (by simp) ?_
        refine AllReadyH.cons (o := ⟨none, _, _, _, _, _⟩) rfl (fun K hK => ?_) ?_
        ·go_simp
         refine hK.out _ _ ?_ ?_
         ·(try dsimp only); (refine zg2 xc7 xv huq huv ?_; assumption)
         clear hK K hHeld; intro hHeld
         (try simp only [Act.put, List.setIfInBounds_toArray, List.set_cons_zero, List.set_cons_succ])
         refine wpAnyH_done (by kernel_rfl) ?_ _
         (have hnu := zb_noU hu7; have hrg8 := hrg7.kept hg2 (by have := hrel0.out; simp; omega) (by have := hrel0.out; simp; omega); have hy8 := hy7.grown hg2 (by have := hrel0.out; omega); have hF8 := hF7.grownU hg2 hnu (by have := hrel0.out; omega); have hG8 := hG7.grownU hg2 hnu; have hB8 := hide (below_grown hB7.out hg2 (by have := hp.out; have := hrel0.out; omega)); have hu8 := zb_fin uA sA aA lA cA; have hz8 := zb_zn uA hzA sA aA lA cA; clear hg2 hgA hgM hd kd kM kM' kA uA0 uA1 uA2 uA3 uM0 uM1 uA uM u0 u1 hzA hzM hF7 hG7 hB7 hy7 hzr7 hrg7 hu7 hnu; go_wp2_with fail; exact ⟨⟨sA, aA, lA, cA, _, _, cnt2, hrg8, hu8, hz8, by omega, hy8, hF8, hG8, ev_add hE.out hlk hf, hB8, by omega⟩, by rw [hrg8.left_eq, hrg.left_eq]; exact hlt⟩)
        exact AllReadyH.nil
       exact AllReadyH.nil
      exact AllReadyH.nil
     refine AllReadyH.cons (o := ⟨some 42, _, _, _, _, _⟩) rfl (fun K hK => ?_) ?_
     ·go_simp
      go_at_call 48; refine (zmul_n (Zm.below hZ7.zm kd) (Zm.below hzy7 kd) (by omega) (by omega)).mono ?_; rintro e wM ⟨sM, aM, lM, cM, rfl, hzM, kM, hlM⟩; have hgM := gb_below hd kM; have kM' := grow_step kM kd; have uM := hu7.below kM'; have uM0 := uM.c0; have uM1 := uM.c1
      (try go_wp2_with fail)
      refine hK.out _ _ ?_ ?_
      ·(try dsimp only); (refine zg2 xc7 xv huq huv ?_; assumption)
      clear hK K hHeld; intro hHeld
      (try simp only [Act.put, List.setIfInBounds_toArray, List.set_cons_zero, List.set_cons_succ])
      refine wpAnyH_ready (rs := [0]) (by kernel_rfl) (by simp) ?_
      refine AllReadyH.cons (o := ⟨some 39, _, _, _, _, _⟩) rfl (fun K hK => ?_) ?_
      ·go_simp
       refine hK.out _ _ ?_ ?_
       ·(try dsimp only); (refine zg2 xc7 xv huq huv ?_; assumption)
       clear hK K hHeld; intro hHeld
       (try simp only [Act.put, List.setIfInBounds_toArray, List.set_cons_zero, List.set_cons_succ])
       refine wpAnyH_ready (rs := [4]) (by kernel_rfl) (by simp) ?_
       refine AllReadyH.cons (o := ⟨some 43, _, _, _, _, _⟩) rfl (fun K hK => ?_) ?_
       ·go_simp
        go_at_call 46; refine (zadd_n (Zm.below hzr7.zm kM') hzM.zm (by omega) (by omega)).mono ?_; rintro e wA ⟨sA, aA, lA, cA, rfl, hzA, kA, hlA⟩; have hgA := gb_below hgM kA; have uA := uM.below kA; have uA0 := uA.c0; have uA1 := uA.c1; have uA2 := uA.f 0; have uA3 := uA.f 1; have hg2 := gb_trans hgA (zb_set wA u (.bool sA) (.slice aA lA cA))
        (try go_wp2_with fail)
        refine hK.out _ _ ?_ ?_
        ·(try dsimp only); (refine zg2 xc7 xv huq huv ?_; assumption)
        clear hK K hHeld; intro hHeld
        (try simp only [Act.put, List.setIfInBounds_toArray, List.set_cons_zero, List.set_cons_succ])
        refine wpAnyH_ready (rs := [5]) (by kernel_rfl) (by simp) ?_
        refine AllReadyH.cons (o := ⟨none, _, _, _, _, _⟩) rfl (fun K hK => ?_) ?_
        ·go_simp
         refine hK.out _ _ ?_ ?_
         ·(try dsimp only); (refine zg2 xc7 xv huq huv ?_; assumption)
         clear hK K hHeld; intro hHeld
         (try simp only [Act.put, List.setIfInBounds_toArray, List.set_cons_zero, List.set_cons_succ])
         refine wpAnyH_done (by kernel_rfl) ?_ _
         (have hnu := zb_noU hu7; have hrg8 := hrg7.kept hg2 (by have := hrel0.out; simp; omega) (by have := hrel0.out; simp; omega); have hy8 := hy7.grown hg2 (by have := hrel0.out; omega); have hF8 := hF7.grownU hg2 hnu (by have := hrel0.out; omega); have hG8 := hG7.grownU hg2 hnu; have hB8 := hide (below_grown hB7.out hg2 (by have := hp.out; have := hrel0.out; omega)); have hu8 := zb_fin uA sA aA lA cA; have hz8 := zb_zn uA hzA sA aA lA cA; clear hg2 hgA hgM hd kd kM kM' kA uA0 uA1 uA2 uA3 uM0 uM1 uA uM u0 u1 hzA hzM hF7 hG7 hB7 hy7 hzr7 hrg7 hu7 hnu; go_wp2_with fail; exact ⟨⟨sA, aA, lA, cA, _, _, cnt2, hrg8, hu8, hz8, by omega, hy8, hF8, hG8, ev_add hE.out hlk hf, hB8, by omega⟩, by rw [hrg8.left_eq, hrg.left_eq]; exact hlt⟩)
        exact AllReadyH.nil
       exact AllReadyH.nil
      exact AllReadyH.nil
     exact AllReadyH.nil
end Go.Proofs.Ytagjfhipjbpoiaa

namespace Go.Proofs.Ytagjfhipjbpoiaa
open Go.RowKit Go.Sort Go.Shelf
open Tm

/-- a slice of ints -/
def IV (w : World) (ad : Option Addr) (n : Nat) (xs : List Int) : Prop := xs.length = n ∧ (n = 0 ∨ ∃ g, ad = some ⟨g, 0, none⟩ ∧ g < w.heap.size ∧ ∀ i (h : i < xs.length), w.cell? ⟨g, i, none⟩ = some (.int .i64 xs[i]))
theorem row_iv {w : World} {base n : Nat} {v : Value} {xs : List Int} (h : w.ownsRow base 3 1 v n (xs.map (Value.int .i64))) : ∃ ad cap, v = .slice ad n cap ∧ IV w ad n xs := by
 have hl : xs.length = n := by simpa using h.1
 rcases h.2 with ⟨rfl, rfl⟩ | ⟨g, cap, cur, rfl, _, hcur, _, _, _, htake⟩
 ·exact ⟨none, 0, rfl, hl, .inl rfl⟩
 ·refine ⟨_, cap, rfl, hl, .inr ⟨g, rfl, (Array.getElem?_eq_some_iff.1 hcur).1, fun i hi => ?_⟩⟩
  have e : (cur.toList.take (n * 1))[i]? = some (.int .i64 xs[i]) := by rw [htake, List.getElem?_map, List.getElem?_eq_getElem hi]; rfl
  rw [List.getElem?_take, if_pos (by omega)] at e
  exact (cell_of_row w g i _ _ (0, 0) hcur).trans (by simpa using e)
theorem infoI : (Try.prog.info? 3).map (fun i => (i.zero, i.size, i.bytes)) = some (some (.int .i64 0), 1, 8) := by kernel_rfl

theorem run_parts (ad : Option Addr) (n cp : Nat) (s : Bool) (a : Option Addr) (l c : Nat) (w : World) : (Instr.field 27 (.agg #[.slice ad n cp, .bool s, .slice a l c]) 0).run Try.prog w = .ok (.slice ad n cp) w := by
 simp [Instr.field, run_underlying Try.underlying27, asAgg, part, Try.isAgg22]

set_option maxRecDepth 100000 in
set_option maxHeartbeats 1600000 in
theorem tvars_n {w : World} {ad : Option Addr} {n cp : Nat} {s : Bool} {a : Option Addr} {l c : Nat} {ps : List (Int × Int)} {k : Int} {B : Nat} (hP : Pr w ad n ps B) (hz : Zm w s a l c k) (hl : l ≤ B) (hB : B + n ≤ 536870912) :
  Calls Try.prog 36 #[.agg #[.slice ad n cp, .bool s, .slice a l c]] w fun e w' => ∃ ad' n' cp' qs, e = .returned (.slice ad' n' cp') ∧ IV w' ad' n' (qs.map Prod.fst) ∧ n' ≤ n ∧ Std qs ∧ (∀ v, csum qs v = csum ps v) ∧ Below w.heap.size w w' := by
 go_enter Try.func36, Try.ntmps36
 go_wp2_with fail
 have b0 := below_alloc w (.cells #[.slice ad n cp, .bool s, .slice a l c] 27)
 refine (tnorm_n (hP.below b0) (hz.below b0) hl hB).mono ?_
 rintro e w1 ⟨ad1, n1, cp1, s1, a1, l1, c1, rs, rfl, hTN, hn1, hStd, hcs⟩
 have hP1 := hTN.pr
 have k1 := hide (grow_step hTN.below b0)
 obtain ⟨hn, hP1⟩ := hP1
 generalize rs.map Raw.p = qs at *
 clear b0 hTN hP hz
 obtain ⟨i0, hi, hz0, hz1, hz2⟩ := info_parts infoI
 have hfield := run_parts ad1 n1 cp1 s1 a1 l1 c1 w1
 go_wp2_with fail
 go_loopw [3, 10] (fun vv i wr => ∃ t : Nat, t ≤ n1 ∧ i = .int .i64 t ∧ wr.ownsRow w1.heap.size 3 1 vv t ((qs.take t).map fun q => .int .i64 q.1) ∧ Below w1.heap.size w1 wr) (fun _ i _ => n1 - (intOf i).toNat)
 case atStart => exact ⟨0, Nat.zero_le _, rfl, World.ownsRow_nil _ _ _ _, Below.refl _ _⟩
 case round =>
  obtain ⟨t, ht, rfl, hrow, kr⟩ := hrel
  by_cases htn : t < n1
  ·rcases hP1 with h | ⟨bp, op, rfl, hP1⟩
   ·omega
   ·obtain ⟨s2, a2, l2, c2, e0, e1, e2, -, -, hv⟩ := (hP1.below kr).2 t (by omega)
    have hps : Hid (qs.take (t + 1) = qs.take t ++ [qs[t]]) := List.take_succ_eq_append_getElem (l := qs) (i := t) (by omega)
    generalize qs[t] = pp at *
    have ka := below_alloc wr (.cells #[.int .i64 pp.1, .bool s2, .slice a2 l2 c2] 62)
    have hbase := hide (show w1.heap.size ≤ wr.heap.size from kr.size)
    go_wp2_with (at_builtin; refine wpList_append_own_at _ rfl _ _ 43 rfl w1.heap.size 3 i0 _ 1 8 Try.underlying43 hi hz0 hz1 hz2 rfl (by decide) _ _ _ rfl ((hrow.alloc _).alloc _) ⟨wr.heap.size + 1, 0, none⟩ 1 1 [.int .i64 pp.1] rfl rfl (by simpa using cell_one_new (wr.alloc (.cells #[.int .i64 pp.1, .bool s2, .slice a2 l2 c2] 62)) (.int .i64 pp.1) 3) (by simp [Value.oneCell']) (by unfold maxLen; omega) (by omega) (by have := hbase.out; simp; omega) ?_; intro v' w4 hown' hgrow hnil hat')
    have kb := below_alloc (wr.alloc (.cells #[.int .i64 pp.1, .bool s2, .slice a2 l2 c2] 62)) (.cells #[.int .i64 pp.1] 3)
    have k4 : Below w1.heap.size w1 w4 := (grow_step kb (grow_step ka kr)).grown hgrow (grow_step kb (grow_step ka kr)).size (fun k e => (hrow.lt k e).1)
    refine ⟨⟨t + 1, by omega, by go_num, ?_, k4⟩, by simp [intOf]; omega⟩
    rw [hps.out, List.map_append]
    exact hown'
  ·obtain rfl : t = n1 := by omega
   rw [List.take_of_length_le (Nat.le_of_eq hn), show (qs.map fun q => Value.int .i64 q.1) = (qs.map Prod.fst).map (Value.int .i64) by rw [List.map_map]; rfl] at hrow
   obtain ⟨ad', cp', rfl, hIV⟩ := row_iv hrow
   clear hrow
   go_wp2
   go_ret
   exact ⟨ad', t, cp', qs, rfl, hIV, hn1, hStd, hcs, grow_step kr k1.out⟩
end Go.Proofs.Ytagjfhipjbpoiaa

namespace Go.Proofs.Ytagjfhipjbpoiaa
open Go.RowKit Go.Sort Go.Shelf
open Tm

theorem pr_one_c {w : World} {b : Nat} {v : Int} {s : Bool} {a : Option Addr} {l c : Nat} {z : Int} {B : Nat} (hz : Zm w s a l c z) (hl : l ≤ B) (hv : I64 v) (h0 : w.cell? ⟨b, 0, none⟩ = some (.int .i64 v)) (h1 : w.cell? ⟨b, 1, none⟩ = some (.bool s)) (h2 : w.cell? ⟨b, 2, none⟩ = some (.slice a l c)) : Pr w (some ⟨b, 0, none⟩) 1 [(v, z)] B := by
 refine ⟨rfl, .inr ⟨b, 0, rfl, World.block_lt_of_cell? w ⟨b, 0, none⟩ h0, fun i hi => ?_⟩⟩
 obtain rfl : i = 0 := by simp at hi; omega
 exact ⟨s, a, l, c, h0, h1, h2, hz, hl, hv⟩
theorem zb_new1 (w : World) (o : Obj) (s : Bool) (a : Option Addr) (l c : Nat) : ZB ((w.alloc o).alloc (.cells #[.bool s, .slice a l c] 25)) (w.heap.size + 1) s a l c := by
 have := zb_new (w.alloc o) s a l c
 rwa [show (w.alloc o).heap.size = w.heap.size + 1 from by simp] at this
theorem zk1v {wb w' : World} {p l c g : Nat} {s : Bool} {a : Option Addr} {v : Value} (x : ZB wb p s a l c) (hg : g < wb.heap.size) (hv : wb.cell? ⟨g, 0, none⟩ = some v) (k : Below wb.heap.size wb w') :
  w'.cell? ⟨p, 0, none⟩ = some (.bool s) ∧ w'.cell? ⟨p, 1, none⟩ = some (.slice a l c) ∧ w'.cell? ⟨g, 0, none⟩ = some v ∧ Below wb.heap.size wb w' :=
 ⟨(x.below k).c0, (x.below k).c1, (k.cell (p := ⟨g, 0, none⟩) hg).trans hv, k⟩
theorem tkb {wb w' : World} {p : Nat} {ad : Option Addr} {n cp : Nat} {s : Bool} {a : Option Addr} {l c : Nat} (x : TB wb p ad n cp s a l c) (k : Below wb.heap.size wb w') :
  w'.cell? ⟨p, 0, none⟩ = some (.slice ad n cp) ∧ w'.cell? ⟨p, 1, none⟩ = some (.bool s) ∧ w'.cell? ⟨p, 2, none⟩ = some (.slice a l c) ∧ Below wb.heap.size wb w' :=
 ⟨(x.below k).c0, (x.below k).c1, (x.below k).c2, k⟩

set_option maxRecDepth 100000 in
set_option maxHeartbeats 6400000 in
theorem awake5 (w : World) :
  Calls Try.prog 10 #[] w fun e w' => e = .returned (.bool true) ∧ Below w.heap.size w w' := by
 have i3 : I64 3 := by unfold I64; decide
 go_enter Try.func10, Try.ntmps10
 go_wp2_with fail
 refine (zof_n 2 (by decide) (by decide) w).mono ?_
 rintro e w1 ⟨s1, a1, l1, c1, rfl, z1, k1, b1⟩
 go_wp2_with fail
 refine (tvar_n (B := 2) i3 (Nat.le_refl _)).mono ?_
 rintro e w2 ⟨ad2, cp2, rs2, rfl, hT2, hr2⟩
 have k2 := hT2.below
 have t2 := hT2.tw
 rw [hr2] at t2
 go_wp2_with fail
 refine (tscale_n (z1.below k2).zm (by omega) t2.1 t2.2.1 t2.2.2 (by decide)).mono ?_
 rintro e w3 ⟨ad3, n3, cp3, s3, a3, l3, c3, qs3, rfl, t3, hn3, hS3, hc3, k3⟩
 go_wp2_with fail
 refine (zof_n 5 (by decide) (by decide) w3).mono ?_
 rintro e w4 ⟨s4, a4, l4, c4, rfl, z4, k4, b4⟩
 go_wp2_with fail
 refine (tconst_n (B := 8) z4.zm (by omega) (by decide)).mono ?_
 rintro e w5 ⟨s5, a5, l5, c5, rfl, hT5⟩
 have k5 := hT5.below
 have t5 := hT5.tw
 have t3' := ((t3.below k4).below k5).mono (B' := 8) (by omega)
 go_wp2_with fail
 refine (tsub_n t3'.1 t3'.2.1 t3'.2.2 t5.1 t5.2.1 t5.2.2 (by omega)).mono ?_
 rintro e w6 ⟨ad6, n6, cp6, s6, a6, l6, c6, rs6, rfl, hT6, hn6, hS6, hc6⟩
 have k6 := hT6.below
 have t6 := hT6.tw
 have kA := hide (grow_step k6 (grow_step k5 (grow_step k4 (grow_step k3 (grow_step k2 k1)))))
 have hq : Hid (rs6.map Raw.p = [(3, 2)]) := by
  refine std_unique hS6 ⟨by simp, by simp⟩ (fun v => ?_)
  rw [hc6, csum_append, hc3, csum_scl, csum_scl]
  simp [csum]
  split <;> rfl
 rw [hq.out] at t6
 clear hT2 t2 t3 t3' t5 hT5 hT6 k1 k2 k3 k4 k5 k6 z1 z4 hc3 hc6 hS3 hS6 hq
 have x := tb_new w6 ad6 n6 cp6 s6 a6 l6 c6
 have kb := below_alloc w6 (.cells #[.slice ad6 n6 cp6, .bool s6, .slice a6 l6 c6] 27)
 replace t6 := t6.below kb
 replace kA := hide (grow_step kb kA.out)
 clear kb
 go_wp2_with fail
 generalize w6.alloc (.cells #[.slice ad6 n6 cp6, .bool s6, .slice a6 l6 c6] 27) = wb at *
 generalize w6.heap.size = p at *
 obtain ⟨hP6, hz6, hl6⟩ := t6
 obtain rfl : n6 = 1 := hP6.1.symm
 have hTot : Tot [(3, 2)] [(3, 4)] := fun v hc => by
  obtain ⟨q, hq, rfl⟩ := csum_mem hc
  simp at hq
  subst hq
  simp [fv]
 have hval : Hid (2 * 0 - 5 + ev [(3, 2)] (val1 [(3, 4)]) = 3) := by show _ = _; decide
 go_region_held3 (fun w' => w'.cell? ⟨p, 0, none⟩ = some (.slice ad6 1 cp6) ∧ w'.cell? ⟨p, 1, none⟩ = some (.bool s6) ∧ w'.cell? ⟨p, 2, none⟩ = some (.slice a6 l6 c6) ∧ Below wb.heap.size wb w')
  ((refine tkb x ?_; first | focus ((repeat' (first | with_reducible exact Below.refl _ _ | with_reducible assumption | with_reducible refine grow_step (by with_reducible assumption) ?_ | with_reducible refine grow_drew ?_ | with_reducible refine grow_alloc ?_ _ | with_reducible refine grow_drewN ?_ _)); done) | ((refine Below.setCell (Below.setCell ?_ ?_ _) ?_ _) <;> first | focus ((repeat' (first | with_reducible exact Below.refl _ _ | with_reducible assumption | with_reducible refine grow_step (by with_reducible assumption) ?_ | with_reducible refine grow_drew ?_ | with_reducible refine grow_alloc ?_ _ | with_reducible refine grow_drewN ?_ _)); done) | (exact Nat.le_refl _) | (exact hw7) | (exact Nat.le_succ_of_le hw7))))
  (first | (go_at_call 49; refine (zof_n 4 (by decide) (by decide) _).mono ?_; rintro e w7 ⟨s7, a7, l7, c7, rfl, z7, k7, b7⟩; have hw7 : wb.heap.size ≤ w7.heap.size := Below.size (show Below wb.heap.size wb w7 by (repeat' (first | with_reducible exact Below.refl _ _ | with_reducible assumption | with_reducible refine grow_step (by with_reducible assumption) ?_ | with_reducible refine grow_drew ?_ | with_reducible refine grow_alloc ?_ _ | with_reducible refine grow_drewN ?_ _)))) | (go_at_call 43; refine (eval_n (B := 16) (Pr.mono (Pr.below hP6 (by (repeat' (first | with_reducible exact Below.refl _ _ | with_reducible assumption | with_reducible refine grow_step (by with_reducible assumption) ?_ | with_reducible refine grow_drew ?_ | with_reducible refine grow_alloc ?_ _ | with_reducible refine grow_drewN ?_ _)))) (by omega)) (Zm.below hz6 (by (repeat' (first | with_reducible exact Below.refl _ _ | with_reducible assumption | with_reducible refine grow_step (by with_reducible assumption) ?_ | with_reducible refine grow_drew ?_ | with_reducible refine grow_alloc ?_ _ | with_reducible refine grow_drewN ?_ _)))) (by omega) (pr_one_c (Zm.below z7.zm (by (repeat' (first | with_reducible exact Below.refl _ _ | with_reducible assumption | with_reducible refine grow_step (by with_reducible assumption) ?_ | with_reducible refine grow_drew ?_ | with_reducible refine grow_alloc ?_ _ | with_reducible refine grow_drewN ?_ _)))) (by omega) i3 (by simp) (by simp) (by simp)) (by omega)).mono ?_; rintro e w8 ⟨s8, a8, l8, c8, er, rfl, k8, hE⟩; (first | (have q8 := ZB.below (zb_new1 w7 (.cells #[.int .i64 3, .bool s7, .slice a7 l7 c7] 57) false none 0 0) k8; have q0 := q8.c0; have q1 := q8.c1; have q2 := q8.f 0; have q3 := q8.f 1) | (have q8 := ZB.below (zb_new w7 false none 0 0) (grow_step k8 (below_alloc _ _)); have q0 := q8.c0; have q1 := q8.c1; have q2 := q8.f 0; have q3 := q8.f 1) | (have q8 := ZB.below (zb_new wb false none 0 0) (grow_step k8 (grow_alloc (grow_step k7 (grow_drew (Below.refl _ _))) _)); have q0 := q8.c0; have q1 := q8.c1; have q2 := q8.f 0; have q3 := q8.f 1) | skip)))
 ·rename_i hH
  have kH := hH.2.2.2
  rcases hE with ⟨hn, _⟩ | ⟨_, rfl, hz8, hl8⟩
  ·exact absurd hTot hn
  ·rw [hval.out] at hz8
   have xz := zb_new w8 s8 a8 l8 c8
   have hzc := hz8.below (below_alloc w8 (.cells #[.bool s8, .slice a8 l8 c8] 25))
   have x9 := x.below kH
   have hP9 := hP6.below kH
   have hz9 := hz6.below kH
   have kA9 := hide (grow_step kH kA.out)
   clear hH kH hz8
   try clear q8 q0 q1 q2 q3
   generalize hwc : w8.alloc (.cells #[.bool s8, .slice a8 l8 c8] 25) = wc at *
   clear hwc
   generalize w8.heap.size = qz at *
   have t0 := x9.c0
   have t1 := x9.c1
   have t2 := x9.c2
   clear x z7 k7 k8 hP6 hz6 kA
   go_wp2_with fail
   refine (tvars_n hP9 hz9 hl6 (by omega)).mono ?_
   rintro e wd ⟨adv, nv, cpv, qv, rfl, hIV, hnv, hSv, hcv, kv⟩
   obtain rfl : qv = [(3, 2)] := std_unique hSv ⟨by simp, by simp⟩ hcv
   obtain ⟨hl1, hIV⟩ := hIV
   simp at hl1
   subst hl1
   rcases hIV with h | ⟨gv, rfl, hgv, hIV⟩
   ·omega
   ·have cv := hIV 0 (by simp)
    simp at cv
    have xd := xz.below kv
    have hzd := hzc.below kv
    have kd := hide (grow_step kv kA9.out)
    clear xz hzc x9 hP9 hz9 kA9 kv t0 t1 t2 hIV
    go_wp2_with fail
    go_region_held3 (fun w' => w'.cell? ⟨qz, 0, none⟩ = some (.bool s8) ∧ w'.cell? ⟨qz, 1, none⟩ = some (.slice a8 l8 c8) ∧ w'.cell? ⟨gv, 0, none⟩ = some (.int .i64 3) ∧ Below wd.heap.size wd w')
     ((refine zk1v xd hgv cv ?_; (repeat' (first | with_reducible exact Below.refl _ _ | with_reducible assumption | with_reducible refine grow_step (by with_reducible assumption) ?_ | with_reducible refine grow_drew ?_ | with_reducible refine grow_alloc ?_ _ | with_reducible refine grow_drewN ?_ _))))
     (first | (go_at_call 50; refine (rof_n 3 (by decide) (by decide) _).mono ?_; rintro e w' ⟨s4', a4', l4', c4', rfl, z4', hg', hl4'⟩) | (go_at_call 30; refine (ris_t (Zn.below hzd (by (repeat' (first | with_reducible exact Below.refl _ _ | with_reducible assumption | with_reducible refine grow_step (by with_reducible assumption) ?_ | with_reducible refine grow_drew ?_ | with_reducible refine grow_alloc ?_ _ | with_reducible refine grow_drewN ?_ _)))) z4'.zm (by omega) (by omega) rfl).mono ?_; rintro e w' ⟨rfl, hg'⟩))
    rename_i hH
    have kf := hide (grow_step hH.2.2.2 kd.out)
    go_wp2_with fail
    go_ret
    exact ⟨by simp, kf.out⟩
 ·rename_i hH
  have kH := hH.2.2.2
  rcases hE with ⟨hn, _⟩ | ⟨_, rfl, hz8, hl8⟩
  ·exact absurd hTot hn
  ·rw [hval.out] at hz8
   have xz := zb_fin q8 s8 a8 l8 c8
   have hzc := zb_zn q8 hz8 s8 a8 l8 c8
   have x9 := x.below kH
   have hP9 := hP6.below kH
   have hz9 := hz6.below kH
   have kA9 := hide (grow_step kH kA.out)
   clear hH kH hz8
   try clear q8 q0 q1 q2 q3
   generalize hwc : (w8.setCell ⟨w7.heap.size + 1, 0, none⟩ (.bool s8)).setCell ⟨w7.heap.size + 1, 1, none⟩ (.slice a8 l8 c8) = wc at *
   clear hwc
   generalize w7.heap.size + 1 = qz at *
   have t0 := x9.c0
   have t1 := x9.c1
   have t2 := x9.c2
   clear x z7 k7 k8 hP6 hz6 kA
   go_wp2_with fail
   refine (tvars_n hP9 hz9 hl6 (by omega)).mono ?_
   rintro e wd ⟨adv, nv, cpv, qv, rfl, hIV, hnv, hSv, hcv, kv⟩
   obtain rfl : qv = [(3, 2)] := std_unique hSv ⟨by simp, by simp⟩ hcv
   obtain ⟨hl1, hIV⟩ := hIV
   simp at hl1
   subst hl1
   rcases hIV with h | ⟨gv, rfl, hgv, hIV⟩
   ·omega
   ·have cv := hIV 0 (by simp)
    simp at cv
    have xd := xz.below kv
    have hzd := hzc.below kv
    have kd := hide (grow_step kv kA9.out)
    clear xz hzc x9 hP9 hz9 kA9 kv t0 t1 t2 hIV
    go_wp2_with fail
    go_region_held3 (fun w' => w'.cell? ⟨qz, 0, none⟩ = some (.bool s8) ∧ w'.cell? ⟨qz, 1, none⟩ = some (.slice a8 l8 c8) ∧ w'.cell? ⟨gv, 0, none⟩ = some (.int .i64 3) ∧ Below wd.heap.size wd w')
     ((refine zk1v xd hgv cv ?_; (repeat' (first | with_reducible exact Below.refl _ _ | with_reducible assumption | with_reducible refine grow_step (by with_reducible assumption) ?_ | with_reducible refine grow_drew ?_ | with_reducible refine grow_alloc ?_ _ | with_reducible refine grow_drewN ?_ _))))
     (first | (go_at_call 50; refine (rof_n 3 (by decide) (by decide) _).mono ?_; rintro e w' ⟨s4', a4', l4', c4', rfl, z4', hg', hl4'⟩) | (go_at_call 30; refine (ris_t (Zn.below hzd (by (repeat' (first | with_reducible exact Below.refl _ _ | with_reducible assumption | with_reducible refine grow_step (by with_reducible assumption) ?_ | with_reducible refine grow_drew ?_ | with_reducible refine grow_alloc ?_ _ | with_reducible refine grow_drewN ?_ _)))) z4'.zm (by omega) (by omega) rfl).mono ?_; rintro e w' ⟨rfl, hg'⟩))
    rename_i hH
    have kf := hide (grow_step hH.2.2.2 kd.out)
    go_wp2_with fail
    go_ret
    exact ⟨by simp, kf.out⟩
 ·rename_i hH
  have kH := hH.2.2.2
  rcases hE with ⟨hn, _⟩ | ⟨_, rfl, hz8, hl8⟩
  ·exact absurd hTot hn
  ·rw [hval.out] at hz8
   have xz := zb_fin q8 s8 a8 l8 c8
   have hzc := zb_zn q8 hz8 s8 a8 l8 c8
   have x9 := x.below kH
   have hP9 := hP6.below kH
   have hz9 := hz6.below kH
   have kA9 := hide (grow_step kH kA.out)
   clear hH kH hz8
   try clear q8 q0 q1 q2 q3
   generalize hwc : (w8.setCell ⟨w7.heap.size, 0, none⟩ (.bool s8)).setCell ⟨w7.heap.size, 1, none⟩ (.slice a8 l8 c8) = wc at *
   clear hwc
   generalize w7.heap.size = qz at *
   have t0 := x9.c0
   have t1 := x9.c1
   have t2 := x9.c2
   clear x z7 k7 k8 hP6 hz6 kA
   go_wp2_with fail
   refine (tvars_n hP9 hz9 hl6 (by omega)).mono ?_
   rintro e wd ⟨adv, nv, cpv, qv, rfl, hIV, hnv, hSv, hcv, kv⟩
   obtain rfl : qv = [(3, 2)] := std_unique hSv ⟨by simp, by simp⟩ hcv
   obtain ⟨hl1, hIV⟩ := hIV
   simp at hl1
   subst hl1
   rcases hIV with h | ⟨gv, rfl, hgv, hIV⟩
   ·omega
   ·have cv := hIV 0 (by simp)
    simp at cv
    have xd := xz.below kv
    have hzd := hzc.below kv
    have kd := hide (grow_step kv kA9.out)
    clear xz hzc x9 hP9 hz9 kA9 kv t0 t1 t2 hIV
    go_wp2_with fail
    go_region_held3 (fun w' => w'.cell? ⟨qz, 0, none⟩ = some (.bool s8) ∧ w'.cell? ⟨qz, 1, none⟩ = some (.slice a8 l8 c8) ∧ w'.cell? ⟨gv, 0, none⟩ = some (.int .i64 3) ∧ Below wd.heap.size wd w')
     ((refine zk1v xd hgv cv ?_; (repeat' (first | with_reducible exact Below.refl _ _ | with_reducible assumption | with_reducible refine grow_step (by with_reducible assumption) ?_ | with_reducible refine grow_drew ?_ | with_reducible refine grow_alloc ?_ _ | with_reducible refine grow_drewN ?_ _))))
     (first | (go_at_call 50; refine (rof_n 3 (by decide) (by decide) _).mono ?_; rintro e w' ⟨s4', a4', l4', c4', rfl, z4', hg', hl4'⟩) | (go_at_call 30; refine (ris_t (Zn.below hzd (by (repeat' (first | with_reducible exact Below.refl _ _ | with_reducible assumption | with_reducible refine grow_step (by with_reducible assumption) ?_ | with_reducible refine grow_drew ?_ | with_reducible refine grow_alloc ?_ _ | with_reducible refine grow_drewN ?_ _)))) z4'.zm (by omega) (by omega) rfl).mono ?_; rintro e w' ⟨rfl, hg'⟩))
    rename_i hH
    have kf := hide (grow_step hH.2.2.2 kd.out)
    go_wp2_with fail
    go_ret
    exact ⟨by simp, kf.out⟩
 ·rename_i hH
  have kH := hH.2.2.2
  rcases hE with ⟨hn, _⟩ | ⟨_, rfl, hz8, hl8⟩
  ·exact absurd hTot hn
  ·rw [hval.out] at hz8
   have xz := zb_fin q8 s8 a8 l8 c8
   have hzc := zb_zn q8 hz8 s8 a8 l8 c8
   have x9 := x.below kH
   have hP9 := hP6.below kH
   have hz9 := hz6.below kH
   have kA9 := hide (grow_step kH kA.out)
   clear hH kH hz8
   try clear q8 q0 q1 q2 q3
   generalize hwc : (w8.setCell ⟨wb.heap.size, 0, none⟩ (.bool s8)).setCell ⟨wb.heap.size, 1, none⟩ (.slice a8 l8 c8) = wc at *
   clear hwc
   generalize wb.heap.size = qz at *
   have t0 := x9.c0
   have t1 := x9.c1
   have t2 := x9.c2
   clear x z7 k7 k8 hP6 hz6 kA
   go_wp2_with fail
   refine (tvars_n hP9 hz9 hl6 (by omega)).mono ?_
   rintro e wd ⟨adv, nv, cpv, qv, rfl, hIV, hnv, hSv, hcv, kv⟩
   obtain rfl : qv = [(3, 2)] := std_unique hSv ⟨by simp, by simp⟩ hcv
   obtain ⟨hl1, hIV⟩ := hIV
   simp at hl1
   subst hl1
   rcases hIV with h | ⟨gv, rfl, hgv, hIV⟩
   ·omega
   ·have cv := hIV 0 (by simp)
    simp at cv
    have xd := xz.below kv
    have hzd := hzc.below kv
    have kd := hide (grow_step kv kA9.out)
    clear xz hzc x9 hP9 hz9 kA9 kv t0 t1 t2 hIV
    go_wp2_with fail
    go_region_held3 (fun w' => w'.cell? ⟨qz, 0, none⟩ = some (.bool s8) ∧ w'.cell? ⟨qz, 1, none⟩ = some (.slice a8 l8 c8) ∧ w'.cell? ⟨gv, 0, none⟩ = some (.int .i64 3) ∧ Below wd.heap.size wd w')
     ((refine zk1v xd hgv cv ?_; (repeat' (first | with_reducible exact Below.refl _ _ | with_reducible assumption | with_reducible refine grow_step (by with_reducible assumption) ?_ | with_reducible refine grow_drew ?_ | with_reducible refine grow_alloc ?_ _ | with_reducible refine grow_drewN ?_ _))))
     (first | (go_at_call 50; refine (rof_n 3 (by decide) (by decide) _).mono ?_; rintro e w' ⟨s4', a4', l4', c4', rfl, z4', hg', hl4'⟩) | (go_at_call 30; refine (ris_t (Zn.below hzd (by (repeat' (first | with_reducible exact Below.refl _ _ | with_reducible assumption | with_reducible refine grow_step (by with_reducible assumption) ?_ | with_reducible refine grow_drew ?_ | with_reducible refine grow_alloc ?_ _ | with_reducible refine grow_drewN ?_ _)))) z4'.zm (by omega) (by omega) rfl).mono ?_; rintro e w' ⟨rfl, hg'⟩))
    rename_i hH
    have kf := hide (grow_step hH.2.2.2 kd.out)
    go_wp2_with fail
    go_ret
    exact ⟨by simp, kf.out⟩
end Go.Proofs.Ytagjfhipjbpoiaa

namespace Go.Proofs.Ytagjfhipjbpoiaa
open Go.RowKit Go.Sort Go.Shelf
open Tm

def Raw.okm (w : World) (B : Nat) (x : Raw) : Prop := Zm w x.s x.a x.l x.c x.z ∧ x.l ≤ B ∧ I64 x.v
theorem pl_raw {w : World} {b off : Nat} {ps : List (Int × Int)} {B : Nat} (h : PL w b off ps B) : ∃ rs : List Raw, rs.map Raw.p = ps ∧ (∀ x ∈ rs, x.okm w B) ∧ ∀ j u, (flat rs)[j]? = some u → w.cell? ⟨b, off + j, none⟩ = some u := by
 have hex : ∀ i, ∃ x : Raw, (hi : i < ps.length) → x.p = ps[i] ∧ x.okm w B ∧ w.cell? ⟨b, off + i * 3, none⟩ = some (.int .i64 x.v) ∧ w.cell? ⟨b, off + i * 3 + 1, none⟩ = some (.bool x.s) ∧ w.cell? ⟨b, off + i * 3 + 2, none⟩ = some (.slice x.a x.l x.c) := by
  intro i
  by_cases hi : i < ps.length
  ·obtain ⟨s, a, l, c, h0, h1, h2, h3, h4, h5⟩ := h.2 i hi
   exact ⟨⟨ps[i].1, s, a, l, c, ps[i].2⟩, fun _ => ⟨rfl, ⟨h3, h4, h5⟩, h0, h1, h2⟩⟩
  ·exact ⟨⟨0, false, none, 0, 0, 0⟩, fun h => absurd h hi⟩
 obtain ⟨Q, hQ⟩ := Classical.skolem.1 hex
 refine ⟨(List.range ps.length).map Q, ?_, ?_, ?_⟩
 ·apply List.ext_getElem (by simp)
  intro i h1 h2
  simp only [List.getElem_map, List.getElem_range]
  exact (hQ i (by simpa using h2)).1
 ·intro x hx
  obtain ⟨i, hi, rfl⟩ := List.mem_map.1 hx
  exact (hQ i (List.mem_range.1 hi)).2.1
 ·intro j u hu
  have hlen := flat_length ((List.range ps.length).map Q)
  have hj : j < (flat ((List.range ps.length).map Q)).length := (List.getElem?_eq_some_iff.1 hu).1
  simp only [List.length_map, List.length_range] at hlen
  have hi : j / 3 < ((List.range ps.length).map Q).length := by simp; omega
  have hg := flat_get ((List.range ps.length).map Q) (j / 3) (j % 3) hi (Nat.mod_lt _ (by decide))
  rw [show j / 3 * 3 + j % 3 = j from by omega, hu] at hg
  simp only [List.getElem_map, List.getElem_range] at hg
  obtain ⟨_, _, h0, h1, h2⟩ := hQ (j / 3) (by simpa using hi)
  have hm : j % 3 = 0 ∨ j % 3 = 1 ∨ j % 3 = 2 := by omega
  rcases hm with e | e | e
  ·rw [e] at hg
   simp [Raw.enc] at hg
   subst hg
   rw [show off + j = off + j / 3 * 3 from by omega]
   exact h0
  ·rw [e] at hg
   simp [Raw.enc] at hg
   subst hg
   rw [show off + j = off + j / 3 * 3 + 1 from by omega]
   exact h1
  ·rw [e] at hg
   simp [Raw.enc] at hg
   subst hg
   rw [show off + j = off + j / 3 * 3 + 2 from by omega]
   exact h2
theorem row_pr {w : World} {base n : Nat} {e : TypeId} {v : Value} {rs : List Raw} {B : Nat} (h : w.ownsRow base e 3 v n (flat rs)) (hok : ∀ x ∈ rs, x.okm w B) : ∃ ad cap, v = .slice ad n cap ∧ Pr w ad n (rs.map Raw.p) B := by
 have hl : rs.length = n := by have := h.1; rw [flat_length] at this; omega
 rcases h.2 with ⟨rfl, rfl⟩ | ⟨g, cap, cur, rfl, _, hcur, _, _, _, htake⟩
 ·exact ⟨none, 0, rfl, by simpa using hl, .inl rfl⟩
 ·refine ⟨_, cap, rfl, by simpa using hl, .inr ⟨g, 0, rfl, (Array.getElem?_eq_some_iff.1 hcur).1, fun i hi => ?_⟩⟩
  have hi' : i < rs.length := by simpa using hi
  have hc : ∀ c, c < 3 → w.cell? ⟨g, 0 + i * 3 + c, none⟩ = (rs[i]).enc[c]? := by
   intro c hc
   have hg := flat_get rs i c hi' hc
   rw [← htake, List.getElem?_take, if_pos (by omega)] at hg
   rw [← hg, Nat.zero_add]
   exact (cell_of_row w g (i * 3 + c) _ _ (0, 0) hcur).trans (by simp)
  obtain ⟨hz, hlx, hv⟩ := hok rs[i] (List.getElem_mem hi')
  rw [List.getElem_map]
  exact ⟨_, _, _, _, by simpa [Raw.enc, Raw.p] using hc 0 (by decide), by simpa [Raw.enc] using hc 1 (by decide), by simpa [Raw.enc] using hc 2 (by decide), hz, hlx, hv⟩

end Go.Proofs.Ytagjfhipjbpoiaa

namespace Go.Proofs.Ytagjfhipjbpoiaa.Fresh
open Go.RowKit
open Go.Maps (Keyed)
open Tm

/-- no row of limbs lies in this block -/
def NR (w : World) (m : Nat) : Prop := ∀ xs, ¬ Row w m xs
theorem Fr.grownN {F : Nat} {w w' : World} {ad : Option Addr} {cap m : Nat} (h : Fr F w ad cap) (hg : w.grownBy w' (some m)) (hm : NR w m) : Fr F w' ad cap := by
 rcases h with h | ⟨b, xs, h1, h2, h3, h4⟩
 ·exact .inl h
 ·exact .inr ⟨b, xs, h1, h2, (hg.block b (row_lt h3) (fun e => by cases e; exact hm xs h3)).trans h3, h4⟩
theorem nr_map {w : World} {m n : Nat} {D : DataW Value} (h : w.ownsMap Try.prog 3 elemR m n D) : NR w m := by
 intro xs hr
 obtain ⟨es, clock, hb, _⟩ := h
 have hr' := hb.symm.trans hr
 cases hr'
theorem zn_zm {F : Nat} {w : World} {s : Bool} {ad : Option Addr} {len cap : Nat} {z : Int} (h : Zn F w s ad len cap z) : Zm F w s ad len cap z := by
 obtain ⟨n, h1, h2, _⟩ := h
 exact ⟨n, h1.nm, h2⟩
theorem zn_map {F : Nat} {w w' : World} {s : Bool} {ad : Option Addr} {len cap m : Nat} {z : Int} (h : Zn F w s ad len cap z) (hg : w.grownBy w' (some m)) (hm : ∀ off, w.cell? ⟨m, off, none⟩ = none) (hr : NR w m) : Zn F w' s ad len cap z := by
 obtain ⟨n, ⟨⟨zs, g1, g2, g3⟩, h2, h3⟩, h4⟩ := h
 exact ⟨n, ⟨⟨zs, g1.grown hg hm, g2, g3⟩, Nat.le_trans h2 hg.size, h3.grownN hg hr⟩, h4⟩
theorem zn_lc {F : Nat} {w : World} {s : Bool} {ad : Option Addr} {len cap : Nat} {z : Int} (h : Zn F w s ad len cap z) : len ≤ cap := by
 obtain ⟨n, ⟨⟨zs, g1, _⟩, _⟩, _⟩ := h
 exact g1.2.1

/-- what a map of numbers says of a variable; the numbers lie at block F or later -/
def GA (F : Nat) (w : World) (D : DataW Value) (f : Int → Int) (B : Nat) : Prop :=
 ∀ v, I64 v → (Maps.has D (.int .i64 v) = false ∧ f v = 0) ∨ ∃ s a l c, (∀ zd, D.atKey (.int .i64 v) zd = .held (.agg #[.bool s, .slice a l c])) ∧ Zn F w s a l c (f v) ∧ l ≤ B
def GM (F : Nat) (w : World) (m n : Nat) (f : Int → Int) (B : Nat) : Prop := ∃ D, w.ownsMap Try.prog 3 elemR m n D ∧ GA F w D f B
theorem GA.kept {F : Nat} {w w' : World} {D : DataW Value} {f : Int → Int} {B : Nat} (h : GA F w D f B) (hz : ∀ s a l c z, Zn F w s a l c z → Zn F w' s a l c z) : GA F w' D f B := fun v hv => by
 rcases h v hv with h1 | ⟨s, a, l, c, h1, h2, h3⟩
 ·exact .inl h1
 ·exact .inr ⟨s, a, l, c, h1, hz _ _ _ _ _ h2, h3⟩
theorem GA.old {F : Nat} {w : World} {D : DataW Value} {f : Int → Int} {B : Nat} (h : GA F w D f B) : Go.Proofs.Ytagjfhipjbpoiaa.GA w D f B := fun v hv => by
 rcases h v hv with h1 | ⟨s, a, l, c, h1, h2, h3⟩
 ·exact .inl h1
 ·exact .inr ⟨s, a, l, c, h1, h2.zn, h3⟩
theorem GM.below {F : Nat} {w w' : World} {m n : Nat} {f : Int → Int} {B : Nat} (h : GM F w m n f B) (hb : Below w.heap.size w w') : GM F w' m n f B := by
 obtain ⟨D, h1, h2⟩ := h
 exact ⟨D, h1.kept (row := none) ⟨hb.os, hb.tape, hb.output, hb.size, fun k hk _ => hb.block k hk⟩ (by simp), h2.kept fun _ _ _ _ _ hz => fzn_below hz hb⟩
theorem GM.lt {F : Nat} {w : World} {m n : Nat} {f : Int → Int} {B : Nat} (h : GM F w m n f B) : m < w.heap.size := by
 obtain ⟨D, h1, _⟩ := h; exact h1.lt
theorem gm_new {F : Nat} (w : World) (B : Nat) : GM F (w.alloc (.map #[] 0)) w.heap.size 0 (fun _ => 0) B :=
 ⟨_, World.ownsMap_made w _ _ _, fun _ _ => .inl ⟨rfl, rfl⟩⟩
theorem GM.look {F : Nat} {w : World} {m n : Nat} {f : Int → Int} {B : Nat} (h : GM F w m n f B) (hF : F ≤ w.heap.size) {v : Int} (hv : I64 v) :
  ∃ s a l c, (Instr.lookup 66 (.map (some m)) (.int .i64 v) false).run Try.prog w = .ok (.agg #[.bool s, .slice a l c]) w ∧ Zn F w s a l c (f v) ∧ l ≤ B := by
 obtain ⟨D, h1, h2⟩ := h
 obtain ⟨u, ps, hrun, hu⟩ := h1.lookup tk Try.underlying66 (Try.zeroValue25 w) (elemR_mk _ _ _ _) (keyOf_i hv)
 obtain ⟨s, a, l, c, rfl, e⟩ := elemR_inv hu
 refine ⟨s, a, l, c, hrun, ?_⟩
 rcases h2 v hv with ⟨h3, h4⟩ | ⟨s', a', l', c', h3, h4, h5⟩
 ·rw [Maps.atKey_of_not_has h3] at e
  simp at e
  obtain ⟨⟨rfl, rfl, rfl, rfl⟩, _⟩ := e
  rw [h4]
  exact ⟨fzn_zero hF, Nat.zero_le _⟩
 ·rw [h3] at e
  simp at e
  obtain ⟨⟨rfl, rfl, rfl, rfl⟩, _⟩ := e
  exact ⟨h4, h5⟩
theorem GM.store {F : Nat} {w : World} {m n : Nat} {f : Int → Int} {B : Nat} (h : GM F w m n f B) {v : Int} (hv : I64 v) (hn : n ≤ 1099511627776) {s : Bool} {a : Option Addr} {l c : Nat} {z : Int} (hz : Zn F w s a l c z) {B' : Nat} (hl : l ≤ B') (hB : B ≤ B') :
  ∃ w', (Instr.mapUpdate 66 (.map (some m)) (.int .i64 v) (.agg #[.bool s, .slice a l c])).run Try.prog w = .ok () w' ∧ GM F w' m (n + 1) (fun u => if u = v then z else f u) B' ∧ w.grownBy w' (some m) := by
 obtain ⟨D, h1, h2⟩ := h
 obtain ⟨w', hrun, h3, h4⟩ := h1.store tk Try.underlying66 (by unfold maxLen; omega) (keyOf_i hv) (elemR_mk s a l c)
 have hg := h4.grown
 refine ⟨w', hrun, ⟨_, h3, fun u hu => ?_⟩, hg⟩
 by_cases e : u = v
 ·subst e
  exact .inr ⟨s, a, l, c, fun zd => Maps.atKey_put_same h1.isMap (isKey_i u hu) _ _, by simpa using zn_map hz hg (map_nocell h1) (nr_map h1), hl⟩
 ·have hne : (Lit.int .i64 u) ≠ .int .i64 v := fun h => e (by injection h)
  simp only [e, if_false]
  rcases h2 u hu with ⟨h5, h6⟩ | ⟨s', a', l', c', h5, h6, h7⟩
  ·exact .inl ⟨by rw [Maps.has_put_other hne]; exact h5, h6⟩
  ·exact .inr ⟨s', a', l', c', fun zd => by rw [Maps.atKey_put_other hne]; exact h5 zd, zn_map h6 hg (map_nocell h1) (nr_map h1), Nat.le_trans h7 hB⟩
theorem GM.del {F : Nat} {w : World} {m n : Nat} {f : Int → Int} {B : Nat} (h : GM F w m n f B) {v : Int} (hv : I64 v) (ty : TypeId) :
  ∃ w', (Builtin.delete_ #[66, 3] ty #[.map (some m), .int .i64 v]).run Try.prog w = .ok (.tuple #[]) w' ∧ GM F w' m n (fun u => if u = v then 0 else f u) B ∧ w.grownBy w' (some m) := by
 obtain ⟨D, h1, h2⟩ := h
 obtain ⟨w', hrun, h3, h4⟩ := h1.drop tk Try.underlying66 (keyOf_i hv) ty
 have hg := h4.grown
 refine ⟨w', hrun, ⟨_, h3, fun u hu => ?_⟩, hg⟩
 by_cases e : u = v
 ·subst e
  exact .inl ⟨Maps.has_del_same, by simp⟩
 ·have hne : (Lit.int .i64 u) ≠ .int .i64 v := fun h => e (by injection h)
  simp only [e, if_false]
  rcases h2 u hu with ⟨h5, h6⟩ | ⟨s', a', l', c', h5, h6, h7⟩
  ·exact .inl ⟨by rw [Maps.has_del_other hne]; exact h5, h6⟩
  ·exact .inr ⟨s', a', l', c', fun zd => by rw [Maps.atKey_del_other hne]; exact h5 zd, zn_map h6 hg (map_nocell h1) (nr_map h1), h7⟩
set_option maxRecDepth 100000 in
set_option maxHeartbeats 1600000 in
theorem gather_n {F : Nat} {w : World} {b off k cap : Nat} {pss : List (List (Int × Int))} {B : Nat} (hF : F ≤ w.heap.size) (hk : pss.length = k) (hk2 : k ≤ 2) (hbl : b < w.heap.size)
  (hL : ∀ j (h : j < pss.length), ∃ ad n cp, w.cell? ⟨b, off + j, none⟩ = some (.slice ad n cp) ∧ Pr w ad n pss[j] B) (hB : B + pss.flatten.length ≤ 536870912) :
  Calls Try.prog 54 #[.slice (some ⟨b, off, none⟩) k cap] w fun e w' => ∃ m, e = .returned (.map (some m)) ∧ GM F w' m pss.flatten.length (csum pss.flatten) (B + pss.flatten.length) ∧ Below w.heap.size w w' ∧ w.heap.size ≤ m := by
 have hmm := run_makeMap (P := Try.prog) 66 w
 go_enter Try.func54, Try.ntmps54
 go_wp2_with fail
 have hG0 := gm_new (F := F) w B
 have b0 := below_alloc w (.map #[] 0)
 generalize w.alloc (.map #[] 0) = w1 at *
 generalize hm : w.heap.size = m at *
 replace b0 : Below w.heap.size w w1 := hm ▸ b0
 replace hbl : b < w.heap.size := hm ▸ hbl
 replace hF : Hid (F ≤ w.heap.size) := hm ▸ hF
 replace hm := hide hm
 clear hmm
 go_loopw [11] (fun j wr => ∃ t : Nat, t ≤ k ∧ j = .int .i64 t ∧ GM F wr m (pss.take t).flatten.length (csum (pss.take t).flatten) (B + (pss.take t).flatten.length) ∧ Below w.heap.size w wr) (fun j _ => k - (intOf j).toNat)
 case atStart => exact ⟨0, Nat.zero_le _, rfl, by simpa [csum] using hG0, b0⟩
 case round =>
  obtain ⟨t, ht, rfl, hG, kr⟩ := hrel
  by_cases htk : t < k
  ·obtain ⟨ad, n, cp, hc, hP⟩ := hL t (by omega)
   replace hc := (kr.cell (p := ⟨b, off + t, none⟩) hbl).trans hc
   have hsplit := hide (List.take_succ_eq_append_getElem (l := pss) (i := t) (by omega))
   have hlen := hide (flat_len pss t (by omega))
   generalize pss[t] = ps at *
   generalize hqs : (pss.take t).flatten = qs at *
   replace hqs := hide hqs
   obtain ⟨hn, hP⟩ := hP
   have hnb : n ≤ 536870912 := by have := hlen.out; omega
   go_wp2_with fail
   go_loopw [17] (fun i wv => ∃ s : Nat, s ≤ n ∧ i = .int .i64 s ∧ GM F wv m (qs ++ ps.take s).length (csum (qs ++ ps.take s)) (B + (qs ++ ps.take s).length) ∧ Below w.heap.size w wv) (fun i _ => n - (intOf i).toNat)
   case atStart => exact ⟨0, Nat.zero_le _, rfl, by simpa using hG, kr⟩
   case round =>
    obtain ⟨s, hs, rfl, hG, kv⟩ := hrel
    by_cases hsn : s < n
    ·rcases hP with hP | ⟨bp, op, rfl, hP⟩
     ·omega
     ·have hPA := (hP.below kv).2 s (by omega)
      obtain ⟨s1, a1, l1, c1, e0, e1, e2, hz, hl1, hv⟩ := hPA
      have hps : Hid (ps.take (s + 1) = ps.take s ++ [ps[s]]) := List.take_succ_eq_append_getElem (l := ps) (i := s) (by omega)
      have hle : (qs ++ ps.take s).length + 1 ≤ qs.length + ps.length := by rw [List.length_append, List.length_take]; omega
      replace hle : B + (qs ++ ps.take s).length + 1 ≤ 536870912 := by have := hlen.out; omega
      generalize ps[s] = p at *
      go_wp2_with fail
      have x := pb_new wr p.1 s1 a1 l1 c1
      have kb := below_alloc wr (.cells #[.int .i64 p.1, .bool s1, .slice a1 l1 c1] 62)
      have hqm : wr.heap.size ≠ m := Nat.ne_of_gt hG.lt
      replace hG := hG.below kb
      replace hz := hz.below kb
      replace kv := hide (grow_step kb kv)
      clear kb e0 e1 e2
      generalize wr.alloc (.cells #[.int .i64 p.1, .bool s1, .slice a1 l1 c1] 62) = wb at *
      generalize wr.heap.size = q at *
      have kd := grow_drew (Below.refl wb.heap.size wb)
      have hGd := hG.below kd
      replace hz := hz.below kd
      obtain ⟨s2, a2, l2, c2, hlook, hz2, hl2⟩ := hGd.look (Nat.le_trans hF.out kv.out.size) hv
      have hzF := hide (zm_of hz (Nat.le_trans hF.out kv.out.size : F ≤ wb.drew.heap.size))
      have hd : wb.grownBy wb.drew (some m) := ⟨rfl, rfl, rfl, Nat.le_refl _, fun _ _ _ => rfl⟩
      go_region_held3 (fun w' => w'.cell? ⟨q, 0, none⟩ = some (.int .i64 p.1) ∧ w'.cell? ⟨q, 1, none⟩ = some (.bool s1) ∧ w'.cell? ⟨q, 2, none⟩ = some (.slice a1 l1 c1) ∧ wb.grownBy w' (some m))
       ((refine pk x hqm ?_; assumption))
       (first | (go_at_call 46; refine (zadd_n (zn_zm hz2) hzF.out (by omega) (by omega)).mono ?_; rintro e w1 ⟨s3, a3, l3, c3, rfl, hz3, k3, hl3⟩; obtain ⟨w2, hst, hG2, hg2⟩ := (hGd.below k3).store hv (by omega) hz3 (B' := B + (qs ++ ps.take s).length + 1) (by omega) (by omega); have hg1 := gb_below hd k3; replace hg2 := gb_trans hg1 hg2))
      replace kv := hide (below_grown kv.out hg2 (Nat.le_of_eq hm.out))
      go_wp2_with fail
      refine ⟨⟨s + 1, by omega, by go_num, ?_, kv⟩, by simp [intOf]; omega⟩
      rw [hps.out, ← List.append_assoc, show csum (qs ++ ps.take s ++ [p]) = fun u => if u = p.1 then csum (qs ++ ps.take s) p.1 + p.2 else csum (qs ++ ps.take s) u from funext fun u => by
       rw [csum_snoc]
       by_cases e : u = p.1
       ·subst e; simp
       ·have e' : ¬ p.1 = u := fun h => e h.symm
        simp [e, e']]
      simpa [Nat.add_assoc] using hG2
    ·obtain rfl : s = n := by omega
     have e1 := hide (show (pss.take (t + 1)).flatten = qs ++ ps.take s by rw [hsplit.out, List.flatten_append, List.flatten_singleton, hqs.out, List.take_of_length_le (Nat.le_of_eq hn)])
     go_wp2_with fail
     refine ⟨⟨t + 1, by omega, by go_num, ?_, kv⟩, by simp [intOf]; omega⟩
     rw [e1.out]
     exact hG
  ·obtain rfl : t = k := by omega
   rw [List.take_of_length_le (Nat.le_of_eq hk)] at hG
   go_wp2
   go_ret
   exact ⟨m, rfl, hG, kr, Nat.le_of_eq hm.out⟩
theorem gather1 {F : Nat} {W : World} {b : Nat} {ad : Option Addr} {n cp : Nat} {ps : List (Int × Int)} {B : Nat} {ty : TypeId} {fz : Nat × Nat} (hF : F ≤ W.heap.size) (hb : W.heap[b]? = some (.cells #[.slice ad n cp] ty fz)) (h : Pr W ad n ps B) (hB : B + n ≤ 536870912) :
  Calls Try.prog 54 #[.slice (some ⟨b, 0, none⟩) 1 1] W fun e w' => ∃ m, e = .returned (.map (some m)) ∧ GM F w' m n (csum ps) (B + n) ∧ Below W.heap.size W w' ∧ W.heap.size ≤ m := by
 have hn := h.1
 have := gather_n (F := F) (w := W) (b := b) (off := 0) (k := 1) (cap := 1) (pss := [ps]) (B := B) hF rfl (by decide) (Array.getElem?_eq_some_iff.1 hb).1 (fun j hj => by
  obtain rfl : j = 0 := by simp at hj; omega
  exact ⟨ad, n, cp, cell_of_row W b 0 _ _ fz hb, h⟩) (by simp [hn]; omega)
 simpa [hn] using this
theorem gather2 {F : Nat} {W : World} {b : Nat} {ad ad2 : Option Addr} {n cp n2 cp2 : Nat} {ps qs : List (Int × Int)} {B : Nat} {ty : TypeId} {fz : Nat × Nat} (hF : F ≤ W.heap.size) (hb : W.heap[b]? = some (.cells #[.slice ad n cp, .slice ad2 n2 cp2] ty fz)) (h : Pr W ad n ps B) (h2 : Pr W ad2 n2 qs B) (hB : B + (n + n2) ≤ 536870912) :
  Calls Try.prog 54 #[.slice (some ⟨b, 0, none⟩) 2 2] W fun e w' => ∃ m, e = .returned (.map (some m)) ∧ GM F w' m (n + n2) (csum (ps ++ qs)) (B + (n + n2)) ∧ Below W.heap.size W w' ∧ W.heap.size ≤ m := by
 have hn := h.1
 have hn2 := h2.1
 have := gather_n (F := F) (w := W) (b := b) (off := 0) (k := 2) (cap := 2) (pss := [ps, qs]) (B := B) hF rfl (by decide) (Array.getElem?_eq_some_iff.1 hb).1 (fun j hj => by
  match j, hj with
  | 0, _ => exact ⟨ad, n, cp, cell_of_row W b 0 _ _ fz hb, h⟩
  | 1, _ => exact ⟨ad2, n2, cp2, cell_of_row W b 1 _ _ fz hb, h2⟩
  | j + 2, hj => simp at hj; omega) (by simp [hn, hn2]; omega)
 simpa [hn, hn2] using this
end Go.Proofs.Ytagjfhipjbpoiaa.Fresh

namespace Go.Proofs.Ytagjfhipjbpoiaa
open Go.RowKit Go.Sort Go.Shelf
open Tm

/-- which of two lists of parts comes first -/
def ordL : List (Int × Int) → List (Int × Int) → Int
 | [], [] => 0
 | [], _ :: _ => -1
 | _ :: _, [] => 1
 | p :: ps, q :: qs => if ordQ p q ≠ 0 then ordQ p q else ordL ps qs
def ordT (ps qs : List (Int × Int)) (k k2 : Int) : Int := if ordL ps qs ≠ 0 then ordL ps qs else cmpI k k2

theorem ordL_drop {ps qs : List (Int × Int)} {t : Nat} (h1 : t < ps.length) (h2 : t < qs.length) : ordL (ps.drop t) (qs.drop t) = if ordQ ps[t] qs[t] ≠ 0 then ordQ ps[t] qs[t] else ordL (ps.drop (t + 1)) (qs.drop (t + 1)) := by
 rw [List.drop_eq_getElem_cons h1, List.drop_eq_getElem_cons h2]
 rfl
theorem ordL_left {ps qs : List (Int × Int)} {t : Nat} (h1 : t < ps.length) (h2 : qs.length ≤ t) : ordL (ps.drop t) (qs.drop t) = 1 := by
 rw [List.drop_eq_getElem_cons h1, List.drop_eq_nil_of_le h2]
 rfl
theorem ordL_right {ps qs : List (Int × Int)} {t : Nat} (h1 : ps.length ≤ t) (h2 : t < qs.length) : ordL (ps.drop t) (qs.drop t) = -1 := by
 rw [List.drop_eq_getElem_cons h2, List.drop_eq_nil_of_le h1]
 rfl
theorem ordL_both {ps qs : List (Int × Int)} {t : Nat} (h1 : ps.length ≤ t) (h2 : qs.length ≤ t) : ordL (ps.drop t) (qs.drop t) = 0 := by
 rw [List.drop_eq_nil_of_le h1, List.drop_eq_nil_of_le h2]
 rfl

end Go.Proofs.Ytagjfhipjbpoiaa

namespace Go.Proofs.Ytagjfhipjbpoiaa.At
open Tm

end Go.Proofs.Ytagjfhipjbpoiaa.At

namespace Go.Proofs.Ytagjfhipjbpoiaa.At
open Tm

end Go.Proofs.Ytagjfhipjbpoiaa.At
