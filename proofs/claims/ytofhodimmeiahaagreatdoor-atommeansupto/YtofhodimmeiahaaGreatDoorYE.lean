/-
  Layer 5: Eval.
-/
import Derived.Test.YtofhodimmeiahaaGreatDoorYD
import Derived.Test.YtofhodimmeiahaaGreatDoorZ5
namespace Go.Proofs.YtofhodimmeiahaaGreatDoor
open Go.RowKit Go.Sort Go.Shelf
open Tm

def val1 (vs : List (Int × Int)) (v : Int) : Int := (fv vs v).getD 0
/-- every variable of the parts has a value -/
def Tot (ps vs : List (Int × Int)) : Prop := ∀ v, csum ps v ≠ 0 → fv vs v ≠ none

theorem noU_nocell {w : World} {b : Nat} (h : ∀ off, w.cell? ⟨b, off, none⟩ = none) : NoU w b := fun off x => by rw [h]; simp
theorem zb_noU {w : World} {b : Nat} {s : Bool} {a : Option Addr} {l c : Nat} (h : ZB w b s a l c) : NoU w b := by
  intro off x
  rw [cell_of_row w b off _ _ (0, 0) h]
  match off with
  | 0 => simp
  | 1 => simp
  | k + 2 => simp
theorem rng_noU {w : World} {b r n : Nat} {D : DataW Value} {left : Lit → Bool} {cnt : Nat} (h : w.ranges Tryz.prog 3 elemR b r n D left cnt) : NoU w r := by
  obtain ⟨_, _, _, _, _, _, _, _, _, hit, _⟩ := h
  refine noU_nocell fun off => ?_
  simp [World.cell?, hit]
theorem FM.grownU {w w' : World} {m n b : Nat} {vs : List (Int × Int)} {B : Nat} (h : FM w m n vs B) (hg : w.grownBy w' (some b)) (hb : NoU w b) (hm : m ≠ b) : FM w' m n vs B := by
  obtain ⟨D, h1, h2⟩ := h
  refine ⟨D, h1.kept hg (by simpa using hm), fun v hv => ?_⟩
  rcases h2 v hv with h3 | ⟨s, a, l, c, z, h3, h4, h5⟩
  · exact .inl h3
  · exact .inr ⟨s, a, l, c, z, h3, h4.grownU hg hb, h5⟩
theorem GA.grownU {w w' : World} {D : DataW Value} {f : Int → Int} {B b : Nat} (h : GA w D f B) (hg : w.grownBy w' (some b)) (hb : NoU w b) : GA w' D f B := h.kept fun _ _ _ _ _ hz => hz.grownU hg hb
theorem GA.below {w w' : World} {D : DataW Value} {f : Int → Int} {B : Nat} (h : GA w D f B) (hb : Below w.heap.size w w') : GA w' D f B := h.kept fun _ _ _ _ _ hz => hz.below hb

def keep (left : Lit → Bool) (ps : List (Int × Int)) : List (Int × Int) := ps.filter fun p => left (.int .i64 p.1)
theorem csum_keep (left : Lit → Bool) (ps : List (Int × Int)) (v : Int) : csum (keep left ps) v = if left (.int .i64 v) = true then csum ps v else 0 := by
  induction ps with
  | nil => simp [keep, csum]
  | cons p ps ih =>
    unfold keep at *
    by_cases h : left (.int .i64 p.1) = true
    · rw [List.filter_cons_of_pos (by simpa using h)]
      simp only [csum, ih]
      by_cases e : p.1 = v
      · subst e; simp [h]
      · simp [e]
    · rw [List.filter_cons_of_neg (by simpa using h), ih]
      by_cases e : p.1 = v
      · subst e; simp [h]
      · simp [csum, e]
theorem keep_step (left : Lit → Bool) (ps : List (Int × Int)) (v : Int) (hv : left (.int .i64 v) = true) (f : Int → Int) :
    ev (keep left ps) f = csum ps v * f v + ev (keep (fun z => left z && !z.sameKey (.int .i64 v)) ps) f := by
  rw [ev_split v (keep left ps), csum_keep, if_pos hv]
  congr 2
  unfold keep wo
  rw [List.filter_filter]
  congr 1
  funext p
  dsimp only
  rw [sameKey_i, Bool.and_comm]
theorem keep_start {w : World} {D : DataW Value} {ps : List (Int × Int)} {B : Nat} (h : GA w D (csum ps) B) (hi : ∀ p ∈ ps, I64 p.1) (f : Int → Int) : ev (keep (Maps.has D) ps) f = ev ps f := by
  refine ev_congr (fun v => ?_) f
  rw [csum_keep]
  split
  · rfl
  · rename_i hh
    by_cases hv : I64 v
    · rcases h v hv with ⟨_, h2⟩ | ⟨s, a, l, c, h2, _⟩
      · exact h2.symm
      · exact absurd (Maps.has_true_of_atKey h2) hh
    · exact (csum_i64 hi hv).symm
theorem keep_end {left : Lit → Bool} (h : ∀ kl, left kl = false) (ps : List (Int × Int)) (f : Int → Int) : ev (keep left ps) f = 0 := by
  have : keep left ps = [] := by
    unfold keep
    rw [List.filter_eq_nil_iff]
    intro p _
    simp [h]
  rw [this]; rfl

/-- what the loop of Eval has done -/
def Ev (ps vs : List (Int × Int)) (k : Int) (left : Lit → Bool) (z : Int) : Prop := z + ev (keep left ps) (val1 vs) = k + ev ps (val1 vs) ∧ ∀ v, I64 v → left (.int .i64 v) = false → csum ps v ≠ 0 → fv vs v ≠ none
theorem ev_begin {w : World} {D : DataW Value} {ps vs : List (Int × Int)} {B : Nat} (h : GA w D (csum ps) B) (hi : ∀ p ∈ ps, I64 p.1) (k : Int) : Ev ps vs k (Maps.has D) k := by
  refine ⟨by rw [keep_start h hi], fun v hv hl hc => ?_⟩
  rcases h v hv with ⟨_, h2⟩ | ⟨s, a, l, c, h2, _⟩
  · exact absurd h2 hc
  · rw [Maps.has_true_of_atKey h2] at hl; cases hl
theorem ev_skip {ps vs : List (Int × Int)} {k : Int} {left : Lit → Bool} {z v : Int} (h : Ev ps vs k left z) (hl : left (.int .i64 v) = true) (hc : csum ps v = 0) : Ev ps vs k (fun z => left z && !z.sameKey (.int .i64 v)) z := by
  refine ⟨?_, fun u hu hlu hcu => ?_⟩
  · have := h.1
    rw [keep_step left ps v hl, hc, Int.zero_mul, Int.zero_add] at this
    exact this
  · by_cases e : u = v
    · subst e; exact absurd hc hcu
    · dsimp only at hlu
      rw [sameKey_i] at hlu
      simp [e] at hlu
      exact h.2 u hu hlu hcu
theorem ev_add {ps vs : List (Int × Int)} {k : Int} {left : Lit → Bool} {z v y : Int} (h : Ev ps vs k left z) (hl : left (.int .i64 v) = true) (hf : fv vs v = some y) : Ev ps vs k (fun z => left z && !z.sameKey (.int .i64 v)) (z + csum ps v * y) := by
  refine ⟨?_, fun u hu hlu hcu => ?_⟩
  · have := h.1
    rw [keep_step left ps v hl] at this
    have e : val1 vs v = y := by simp [val1, hf]
    rw [e] at this
    omega
  · by_cases e : u = v
    · subst e; rw [hf]; simp
    · dsimp only at hlu
      rw [sameKey_i] at hlu
      simp [e] at hlu
      exact h.2 u hu hlu hcu
theorem ev_finish {ps vs : List (Int × Int)} {k : Int} {left : Lit → Bool} {z : Int} (h : Ev ps vs k left z) (hl : ∀ kl, left kl = false) (hi : ∀ p ∈ ps, I64 p.1) : Tot ps vs ∧ z = k + ev ps (val1 vs) := by
  refine ⟨fun v hc => ?_, ?_⟩
  · by_cases hv : I64 v
    · exact h.2 v hv (hl _) hc
    · exact absurd (csum_i64 hi hv) hc
  · have := h.1
    rw [keep_end hl, Int.add_zero] at this
    exact this

theorem zg2 {wb w' : World} {p q u l1 c1 l2 c2 : Nat} {s1 s2 : Bool} {a1 a2 : Option Addr} (x : ZB wb p s1 a1 l1 c1) (x2 : ZB wb q s2 a2 l2 c2) (hp : u ≠ p) (hq : u ≠ q) (k : wb.grownBy w' (some u)) :
    w'.cell? ⟨p, 0, none⟩ = some (.bool s1) ∧ w'.cell? ⟨p, 1, none⟩ = some (.slice a1 l1 c1) ∧ w'.cell? ⟨q, 0, none⟩ = some (.bool s2) ∧ w'.cell? ⟨q, 1, none⟩ = some (.slice a2 l2 c2) ∧ wb.grownBy w' (some u) := by
  have x' := x.grown k (Ne.symm hp)
  have x2' := x2.grown k (Ne.symm hq)
  exact ⟨x'.c0, x'.c1, x2'.c0, x2'.c1, k⟩
theorem zb_set (w : World) (b : Nat) (v0 v1 : Value) : w.grownBy ((w.setCell ⟨b, 0, none⟩ v0).setCell ⟨b, 1, none⟩ v1) (some b) := gb_trans (gb_set _ _ _ _) (gb_set _ _ _ _)

set_option maxRecDepth 100000 in
set_option maxHeartbeats 6400000 in
theorem eval_n {w : World} {ad : Option Addr} {n cp : Nat} {s : Bool} {a : Option Addr} {l c : Nat} {ps : List (Int × Int)} {k : Int} {ad2 : Option Addr} {n2 cp2 : Nat} {vs : List (Int × Int)} {B : Nat} (hP : Pr w ad n ps B) (hz : Zm w s a l c k) (hl : l ≤ B) (hV : Pr w ad2 n2 vs B) (hB : B + n + n2 ≤ 268435456) :
    Calls Tryz.prog 14 #[.agg #[.slice ad n cp, .bool s, .slice a l c], .slice ad2 n2 cp2] w fun e w' => ∃ s' a' l' c' er, e = .returned (.tuple #[.agg #[.bool s', .slice a' l' c'], .int .i64 er]) ∧ Below w.heap.size w w' ∧ ((¬ Tot ps vs ∧ er = 170 ∧ s' = false ∧ a' = none ∧ l' = 0 ∧ c' = 0) ∨ (Tot ps vs ∧ er = 0 ∧ Zn w' s' a' l' c' (k + ev ps (val1 vs)) ∧ l' ≤ 2 * B + 2 * n + 1)) := by
  have hi := hP.i64
  go_enter Tryz.func14, Tryz.ntmps14
  go_wp2_with fail
  have x := (tb_new w ad n cp s a l c).below (below_alloc _ (.cells #[.bool false, .slice none 0 0] 24))
  have y := zb_new (w.alloc (.cells #[.slice ad n cp, .bool s, .slice a l c] 27)) false none 0 0
  have b0 : Below w.heap.size w ((w.alloc (.cells #[.slice ad n cp, .bool s, .slice a l c] 27)).alloc (.cells #[.bool false, .slice none 0 0] 24)) := below_alloc' (below_alloc _ _) _
  rw [show (w.alloc (.cells #[.slice ad n cp, .bool s, .slice a l c] 27)).heap.size = w.heap.size + 1 from by simp] at y
  generalize (w.alloc (.cells #[.slice ad n cp, .bool s, .slice a l c] 27)).alloc (.cells #[.bool false, .slice none 0 0] 24) = wb at *
  have hpr : w.heap.size < w.heap.size + 1 := by omega
  replace hP := hP.below b0
  replace hz := hz.below b0
  replace hV := hV.below b0
  generalize hp : w.heap.size = p at *
  replace b0 : Hid (Below w.heap.size w wb) := hp ▸ b0
  replace hp := hide hp
  generalize p + 1 = r at *
  refine (first_n hV (by omega)).mono ?_
  rintro e w1 ⟨m1, rfl, hF, k1, hm1⟩
  have x1 := x.below k1
  have y1 := y.below k1
  have hrm : r < m1 := Nat.lt_of_lt_of_le y.lt hm1
  replace hP := hP.below k1
  replace hz := hz.below k1
  replace b0 := hide (grow_step k1 b0.out)
  have t0 := x1.c0
  have t1 := x1.c1
  have t2 := x1.c2
  clear k1 x y hV hm1
  go_wp2_with fail
  refine (norm_n hz (by omega)).mono ?_
  rintro e w2 ⟨s2, a2, l2, c2, rfl, hz2, k2, hl2⟩
  have x2 := x1.below k2
  have y2 := y1.below k2
  have z2 := zb_new w2 s2 a2 l2 c2
  have ka := below_alloc w2 (.cells #[.bool s2, .slice a2 l2 c2] 24)
  have k2a := grow_step ka k2
  have t3 := x2.c0
  have hxl := x2.lt
  clear t0 t1 t2
  go_wp2_with fail
  have kb := below_alloc (w2.alloc (.cells #[.bool s2, .slice a2 l2 c2] 24)) (.cells #[.slice ad n cp] 25)
  refine (gather1 (b := w2.heap.size + 1) (by simpa using heap_alloc_new (w2.alloc (.cells #[.bool s2, .slice a2 l2 c2] 24)) (.cells #[.slice ad n cp] 25)) ((hP.below k2a).below kb) (by omega)).mono ?_
  rintro e w3 ⟨m2, rfl, ⟨D, hown, hGA⟩, k3, hm2⟩
  replace k3 := grow_step k3 kb
  have hm2' : w2.heap.size < m2 := by simp at hm2; omega
  have y3 := ((y2.below ka).below k3)
  have z3 := z2.below k3
  have hF3 := ((hF.below k2).below ka).below k3
  have hz3 := (hz2.below ka).below k3
  have hrel0 : r < m1 ∧ m1 < w2.heap.size ∧ w2.heap.size < m2 ∧ m2 < w3.heap.size := ⟨hrm, Nat.lt_of_lt_of_le hF.lt k2.size, hm2', hown.lt⟩
  have b3 := hide (grow_step k3 (grow_step ka (grow_step k2 b0.out)))
  clear hP hz b0 hF x1 y1 k2 x2 y2 z2 ka k2a hz2 kb k3 hm2 hm2' t3 hxl hrm
  go_wp2_with (at_range; refine wpList_range_own _ rfl _ 71 rfl 3 24 tk Tryz.underlying71 _ m2 n D rfl hown ?_; intro w4 hrg0 hg0 hs0)
  go_frame
  have k4 := gb_none hg0
  have y4 := y3.below k4
  have z4 := z3.below k4
  have hF4 := hF3.below k4
  have hz4 := hz3.below k4
  have hGA4 := hGA.below k4
  have hsz0 := hrg0.owns.size_le
  replace b3 := hide (grow_step k4 b3.out)
  clear hg0 k4 y3 z3 hF3 hz3 hGA hown hs0
  generalize w2.heap.size = u at *
  generalize w3.heap.size = rI at *
  replace hrel0 := hide hrel0
  go_loopw [8] (fun _ wr => ∃ (s1 : Bool) (a1 : Option Addr) (l1 c1 : Nat) (z : Int) (left : Lit → Bool) (cnt : Nat), wr.ranges Tryz.prog 3 elemR m2 rI n D left cnt ∧ ZB wr u s1 a1 l1 c1 ∧ Zn wr s1 a1 l1 c1 z ∧ l1 + cnt ≤ 2 * B + 2 * n + 1 ∧ ZB wr r false none 0 0 ∧ FM wr m1 n2 vs B ∧ GA wr D (csum ps) (B + n) ∧ Hid (Ev ps vs k left z) ∧ Hid (Below w.heap.size w wr) ∧ cnt ≤ n) (fun _ wr => wr.rangeLeft m2 rI)
  case atStart => exact ⟨s2, a2, l2, c2, k, _, _, hrg0, z4, hz4, by omega, y4, hF4, hGA4, ev_begin hGA4 hi k, b3, hsz0⟩
  case round =>
    obtain ⟨s1, a1, l1, c1, z, left, cnt, hrg, hu, hzr, hlr, hy, hFr, hGr, hE, kr, hcn⟩ := hrel
    have u0 := hu.c0
    have u1 := hu.c1
    have v0 := hy.c0
    have v1 := hy.c1
    have v2 := hy.f 0
    have v3 := hy.f 1
    go_wp2_with (at_next; refine wpList_next_z rfl _ rfl m2 rI n D left cnt rfl hrg (fun hl0 => ?_) (fun v s3 a3 l3 c3 w5 cnt2 hv hlk hat hrg2 hlt hgr hen => ?_))
    · refine bodyPost_ret (results_ct rfl _ _ r 24 _ (0, 0) _ rfl (zb_fin hy s1 a1 l1 c1) Tryz.underlying24 rfl (by kernel_rfl)) rfl ?_
      obtain ⟨hT, rfl⟩ := ev_finish hE.out hl0 hi
      have hrw : w.heap.size ≤ r := by have := hp.out; omega
      exact ⟨s1, a1, l1, c1, 0, by simp, (kr.out.setCell hrw _).setCell hrw _, .inr ⟨hT, rfl, zb_zn hy hzr _ _ _ _, by omega⟩⟩
    · have hwI : w.heap.size ≤ rI := by have := hp.out; have := hrel0.out; omega
      have hnI := rng_noU hrg
      have hu5 := hu.grown hgr (by have := hrel0.out; omega)
      have hzr5 := hzr.grownU hgr hnI
      have hy5 := hy.grown hgr (by have := hrel0.out; omega)
      have hF5 := hFr.grownU hgr hnI (by have := hrel0.out; omega)
      have hG5 := hGr.grownU hgr hnI
      have hB5 := hide (below_grown kr.out hgr hwI)
      have hZ : Zn w5 s3 a3 l3 c3 (csum ps v) ∧ l3 ≤ B + n := by
        rcases hG5 v hv with ⟨h1, _⟩ | ⟨s', a', l', c', h1, h2, h3⟩
        · rw [Maps.has_true_of_atKey hat] at h1; cases h1
        · have := (hat (.held (.bool true))).symm.trans (h1 _)
          simp at this
          obtain ⟨rfl, rfl, rfl, rfl⟩ := this
          exact ⟨h2, h3⟩
      obtain ⟨hZ, hl3⟩ := hZ
      have kb := below_alloc w5 (.cells #[.bool s3, .slice a3 l3 c3] 24)
      have xc := zb_new w5 s3 a3 l3 c3
      clear hu hy u0 u1 v0 v1 v2 v3 kr hFr hGr hzr hgr hnI hen
      refine (zsign_n (hZ.below kb).zm (by omega)).mono ?_
      rintro e w6 ⟨rfl, k6⟩
      replace xc := xc.below k6
      replace k6 := grow_step k6 kb
      have hrg6 := hrg2.kept (bg k6) (by simp) (by simp)
      have hu6 := hu5.below k6
      have hzr6 := hzr5.below k6
      have hy6 := hy5.below k6
      have hF6 := hF5.below k6
      have hG6 := hG5.below k6
      have hB6 := hide (grow_step k6 hB5.out)
      have hZ6 := hZ.below k6
      have huq : u ≠ w5.heap.size := Nat.ne_of_lt hu5.lt
      clear hu5 hzr5 hy5 hF5 hG5 hB5 hZ kb k6 hrg2
      generalize w5.heap.size = q3 at *
      by_cases hc0 : csum ps v = 0
      · have e0 : cmpI (csum ps v) 0 = 0 := cmpI_eq hc0
        rw [e0]
        go_wp2_with fail
        exact ⟨⟨s1, a1, l1, c1, z, _, cnt2, hrg6, hu6, hzr6, by omega, hy6, hF6, hG6, ev_skip hE.out hlk hc0, hB6, by omega⟩, by rw [hrg6.left_eq, hrg.left_eq]; exact hlt⟩
      · have e0 : cmpI (csum ps v) 0 ≠ 0 := by unfold cmpI; split <;> (try split) <;> omega
        generalize cmpI (csum ps v) 0 = sgn at *
        obtain ⟨s4, a4, l4, c4, ok, hlook, hok⟩ := hF6.look hv
        rcases hok with ⟨rfl, hf⟩ | ⟨rfl, y, hzy, hf, hl4⟩
        · have v0 := hy6.c0
          have v1 := hy6.c1
          have v2 := hy6.f 0
          have v3 := hy6.f 1
          have hrl := hy6.lt
          go_wp2
          refine bodyPost_ret (results_ct rfl _ _ r 24 _ (0, 0) _ rfl ((zb_fin hy6 false none 0 0).below (below_alloc _ (.cells #[.bool s4, .slice a4 l4 c4] 24))) Tryz.underlying24 rfl (by kernel_rfl)) rfl ?_
          have hrw : w.heap.size ≤ r := by have := hp.out; omega
          exact ⟨false, none, 0, 0, 170, by simp, below_alloc' ((hB6.out.setCell hrw _).setCell hrw _) _, .inl ⟨fun hT => hT v hc0 hf, rfl, rfl, rfl, rfl, rfl⟩⟩
        · have kc := below_alloc w6 (.cells #[.bool s4, .slice a4 l4 c4] 24)
          have xv := zb_new w6 s4 a4 l4 c4
          have xc7 := xc.below kc
          have hrg7 := hrg6.kept (bg kc) (by simp) (by simp)
          have hu7 := hu6.below kc
          have hzr7 := hzr6.below kc
          have hy7 := hy6.below kc
          have hF7 := hF6.below kc
          have hG7 := hG6.below kc
          have hB7 := hide (grow_step kc hB6.out)
          have hZ7 := hZ6.below kc
          have hzy7 := hzy.below kc
          have huv : u ≠ w6.heap.size := Nat.ne_of_lt hu6.lt
          clear hF6 hG6 hB6 hy6 hzr6 hrg6 kc hu6 hZ6 hzy xc
          go_wp2_with fail
          generalize w6.alloc (.cells #[.bool s4, .slice a4 l4 c4] 24) = wb at *
          generalize w6.heap.size = q4 at *
          have kd := grow_drew (Below.refl wb.heap.size wb)
          have hd : wb.grownBy wb.drew (some u) := ⟨rfl, rfl, rfl, Nat.le_refl _, fun _ _ _ => rfl⟩
          have u0 := hu7.c0
          have u1 := hu7.c1
          refine wp_region_held_drew (S := (fun w' => w'.cell? ⟨q3, 0, none⟩ = some (.bool s3) ∧ w'.cell? ⟨q3, 1, none⟩ = some (.slice a3 l3 c3) ∧ w'.cell? ⟨q4, 0, none⟩ = some (.bool s4) ∧ w'.cell? ⟨q4, 1, none⟩ = some (.slice a4 l4 c4) ∧ wb.grownBy w' (some u))) (by kernel_rfl) (zg2 xc7 xv huq huv hd) (fun hHeld => ?_)
          show wpAnyH _ _ _ _ _ 6 _ _ _
          refine wpAnyH_take (i := 1) (oi := ⟨some 40, _, _, _, _, _⟩) (v := ?_) rfl (by kernel_rfl) (by kernel_rfl) (by kernel_rfl) (fun _ _ _ h => h) (Or.inl ⟨by rfl, ?_⟩) (by assumption) ?_
          rotate_left
          · intro wq hSw; (try dsimp only at hSw); go_simp; (try with_reducible rfl)
          (try simp only [Act.put, List.setIfInBounds_toArray, List.set_cons_zero, List.set_cons_succ])
          refine wpAnyH_take (i := 2) (oi := ⟨some 41, _, _, _, _, _⟩) (v := ?_) rfl (by kernel_rfl) (by kernel_rfl) (by kernel_rfl) (fun _ _ _ h => h) (Or.inl ⟨by rfl, ?_⟩) (by assumption) ?_
          rotate_left
          · intro wq hSw; (try dsimp only at hSw); go_simp; (try with_reducible rfl)
          (try simp only [Act.put, List.setIfInBounds_toArray, List.set_cons_zero, List.set_cons_succ])
          refine wpAnyH_ready (rs := [0, 3]) (by kernel_rfl) (by simp) ?_
          refine AllReadyH.cons (o := ⟨some 39, _, _, _, _, _⟩) rfl (fun K hK => ?_) ?_
          · go_simp
            refine hK.out _ _ ?_ ?_
            · (try dsimp only); (refine zg2 xc7 xv huq huv ?_; assumption)
            clear hK K hHeld; intro hHeld
            (try simp only [Act.put, List.setIfInBounds_toArray, List.set_cons_zero, List.set_cons_succ])
            refine wpAnyH_ready (rs := [3]) (by kernel_rfl) (by simp) ?_
            refine AllReadyH.cons (o := ⟨some 42, _, _, _, _, _⟩) rfl (fun K hK => ?_) ?_
            · go_simp
              go_at_call 43; refine (zmul_n (Zm.below hZ7.zm kd) (Zm.below hzy7 kd) (by omega) (by omega)).mono ?_; rintro e wM ⟨sM, aM, lM, cM, rfl, hzM, kM, hlM⟩; have hgM := gb_below hd kM; have kM' := grow_step kM kd; have uM := hu7.below kM'; have uM0 := uM.c0; have uM1 := uM.c1
              (try go_wp2_with fail)
              refine hK.out _ _ ?_ ?_
              · (try dsimp only); (refine zg2 xc7 xv huq huv ?_; assumption)
              clear hK K hHeld; intro hHeld
              (try simp only [Act.put, List.setIfInBounds_toArray, List.set_cons_zero, List.set_cons_succ])
              refine wpAnyH_ready (rs := [4]) (by kernel_rfl) (by simp) ?_
              refine AllReadyH.cons (o := ⟨some 43, _, _, _, _, _⟩) rfl (fun K hK => ?_) ?_
              · go_simp
                go_at_call 42; refine (zadd_n (Zm.below hzr7.zm kM') hzM.zm (by omega) (by omega)).mono ?_; rintro e wA ⟨sA, aA, lA, cA, rfl, hzA, kA, hlA⟩; have hgA := gb_below hgM kA; have uA := uM.below kA; have uA0 := uA.c0; have uA1 := uA.c1; have uA2 := uA.f 0; have uA3 := uA.f 1; have hg2 := gb_trans hgA (zb_set wA u (.bool sA) (.slice aA lA cA))
                (try go_wp2_with fail)
                refine hK.out _ _ ?_ ?_
                · (try dsimp only); (refine zg2 xc7 xv huq huv ?_; assumption)
                clear hK K hHeld; intro hHeld
                (try simp only [Act.put, List.setIfInBounds_toArray, List.set_cons_zero, List.set_cons_succ])
                refine wpAnyH_ready (rs := [5]) (by kernel_rfl) (by simp) ?_
                refine AllReadyH.cons (o := ⟨none, _, _, _, _, _⟩) rfl (fun K hK => ?_) ?_
                · go_simp
                  refine hK.out _ _ ?_ ?_
                  · (try dsimp only); (refine zg2 xc7 xv huq huv ?_; assumption)
                  clear hK K hHeld; intro hHeld
                  (try simp only [Act.put, List.setIfInBounds_toArray, List.set_cons_zero, List.set_cons_succ])
                  refine wpAnyH_done (by kernel_rfl) ?_ _
                  (have hnu := zb_noU hu7; have hrg8 := hrg7.kept hg2 (by have := hrel0.out; simp; omega) (by have := hrel0.out; simp; omega); have hy8 := hy7.grown hg2 (by have := hrel0.out; omega); have hF8 := hF7.grownU hg2 hnu (by have := hrel0.out; omega); have hG8 := hG7.grownU hg2 hnu; have hB8 := hide (below_grown hB7.out hg2 (by have := hp.out; have := hrel0.out; omega)); have hu8 := zb_fin uA sA aA lA cA; have hz8 := zb_zn uA hzA sA aA lA cA; clear hg2 hgA hgM hd kd kM kM' kA uA0 uA1 uA2 uA3 uM0 uM1 uA uM u0 u1 hzA hzM hF7 hG7 hB7 hy7 hzr7 hrg7 hu7 hnu; go_wp2_with fail; exact ⟨⟨sA, aA, lA, cA, _, _, cnt2, hrg8, hu8, hz8, by omega, hy8, hF8, hG8, ev_add hE.out hlk hf, hB8, by omega⟩, by rw [hrg8.left_eq, hrg.left_eq]; exact hlt⟩)
                exact AllReadyH.nil
              exact AllReadyH.nil
            exact AllReadyH.nil
          refine AllReadyH.cons (o := ⟨some 42, _, _, _, _, _⟩) rfl (fun K hK => ?_) ?_
          · go_simp
            go_at_call 43; refine (zmul_n (Zm.below hZ7.zm kd) (Zm.below hzy7 kd) (by omega) (by omega)).mono ?_; rintro e wM ⟨sM, aM, lM, cM, rfl, hzM, kM, hlM⟩; have hgM := gb_below hd kM; have kM' := grow_step kM kd; have uM := hu7.below kM'; have uM0 := uM.c0; have uM1 := uM.c1
            (try go_wp2_with fail)
            refine hK.out _ _ ?_ ?_
            · (try dsimp only); (refine zg2 xc7 xv huq huv ?_; assumption)
            clear hK K hHeld; intro hHeld
            (try simp only [Act.put, List.setIfInBounds_toArray, List.set_cons_zero, List.set_cons_succ])
            refine wpAnyH_ready (rs := [0]) (by kernel_rfl) (by simp) ?_
            refine AllReadyH.cons (o := ⟨some 39, _, _, _, _, _⟩) rfl (fun K hK => ?_) ?_
            · go_simp
              refine hK.out _ _ ?_ ?_
              · (try dsimp only); (refine zg2 xc7 xv huq huv ?_; assumption)
              clear hK K hHeld; intro hHeld
              (try simp only [Act.put, List.setIfInBounds_toArray, List.set_cons_zero, List.set_cons_succ])
              refine wpAnyH_ready (rs := [4]) (by kernel_rfl) (by simp) ?_
              refine AllReadyH.cons (o := ⟨some 43, _, _, _, _, _⟩) rfl (fun K hK => ?_) ?_
              · go_simp
                go_at_call 42; refine (zadd_n (Zm.below hzr7.zm kM') hzM.zm (by omega) (by omega)).mono ?_; rintro e wA ⟨sA, aA, lA, cA, rfl, hzA, kA, hlA⟩; have hgA := gb_below hgM kA; have uA := uM.below kA; have uA0 := uA.c0; have uA1 := uA.c1; have uA2 := uA.f 0; have uA3 := uA.f 1; have hg2 := gb_trans hgA (zb_set wA u (.bool sA) (.slice aA lA cA))
                (try go_wp2_with fail)
                refine hK.out _ _ ?_ ?_
                · (try dsimp only); (refine zg2 xc7 xv huq huv ?_; assumption)
                clear hK K hHeld; intro hHeld
                (try simp only [Act.put, List.setIfInBounds_toArray, List.set_cons_zero, List.set_cons_succ])
                refine wpAnyH_ready (rs := [5]) (by kernel_rfl) (by simp) ?_
                refine AllReadyH.cons (o := ⟨none, _, _, _, _, _⟩) rfl (fun K hK => ?_) ?_
                · go_simp
                  refine hK.out _ _ ?_ ?_
                  · (try dsimp only); (refine zg2 xc7 xv huq huv ?_; assumption)
                  clear hK K hHeld; intro hHeld
                  (try simp only [Act.put, List.setIfInBounds_toArray, List.set_cons_zero, List.set_cons_succ])
                  refine wpAnyH_done (by kernel_rfl) ?_ _
                  (have hnu := zb_noU hu7; have hrg8 := hrg7.kept hg2 (by have := hrel0.out; simp; omega) (by have := hrel0.out; simp; omega); have hy8 := hy7.grown hg2 (by have := hrel0.out; omega); have hF8 := hF7.grownU hg2 hnu (by have := hrel0.out; omega); have hG8 := hG7.grownU hg2 hnu; have hB8 := hide (below_grown hB7.out hg2 (by have := hp.out; have := hrel0.out; omega)); have hu8 := zb_fin uA sA aA lA cA; have hz8 := zb_zn uA hzA sA aA lA cA; clear hg2 hgA hgM hd kd kM kM' kA uA0 uA1 uA2 uA3 uM0 uM1 uA uM u0 u1 hzA hzM hF7 hG7 hB7 hy7 hzr7 hrg7 hu7 hnu; go_wp2_with fail; exact ⟨⟨sA, aA, lA, cA, _, _, cnt2, hrg8, hu8, hz8, by omega, hy8, hF8, hG8, ev_add hE.out hlk hf, hB8, by omega⟩, by rw [hrg8.left_eq, hrg.left_eq]; exact hlt⟩)
                exact AllReadyH.nil
              exact AllReadyH.nil
            exact AllReadyH.nil
          exact AllReadyH.nil
end Go.Proofs.YtofhodimmeiahaaGreatDoor
