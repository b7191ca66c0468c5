/-
 Several texts in one: YX, YX2, YY, YP, YS, B3, B4, BF, BH, BI, BK.
-/
import Derived.Test.YtagjfhipjbpoiaaQ21
import Derived.Test.YtagjfhipjbpoiaaQ18
import Derived.Test.YtagjfhipjbpoiaaQ20
import Derived.Test.YtagjfhipjbpoiaaQ19
import Derived.Test.YtagjfhipjbpoiaaQ09
import Derived.Test.YtagjfhipjbpoiaaQ12
import Derived.Test.YtagjfhipjbpoiaaQ17
namespace Go.Proofs.Ytagjfhipjbpoiaa
open Go.RowKit Go.Sort Go.Shelf
open Tm

set_option maxRecDepth 100000 in
set_option maxHeartbeats 1600000 in
theorem number5_n {w : World} {s : Bool} {a : Option Addr} {l c : Nat} {xs : List Int} (h : Rd w a l c xs) (hl : l ≤ 1099511627776) :
    Calls Try.prog 60 #[.agg #[.bool s, .slice a l c]] w fun e w' => ∃ a' c', e = .returned (.agg #[.bool s, .slice a' l c']) ∧ Rd w' a' l c' xs ∧ Below w.heap.size w w' := by
  have x := (zb_new w s a l c).below (below_alloc _ (.cells #[.bool false, .slice none 0 0] 25))
  have y := zb_new (w.alloc (.cells #[.bool s, .slice a l c] 25)) false none 0 0
  have b0 : Below w.heap.size w ((w.alloc (.cells #[.bool s, .slice a l c] 25)).alloc (.cells #[.bool false, .slice none 0 0] 25)) := below_alloc' (below_alloc _ _) _
  rw [show (w.alloc (.cells #[.bool s, .slice a l c] 25)).heap.size = w.heap.size + 1 from by simp] at y
  obtain ⟨v1, w1, hrun, a', c', rfl, hO⟩ := run_append_all (h.below b0) hl 23
  have hb1 : Below w.heap.size w w1 := grow_step hO.1 b0
  have x1 := x.below hO.1
  have y1 := y.below hO.1
  have u0 := x1.c0
  have v0 := y1.c0
  have v1 := y1.c1
  have v2 := y1.f 0
  have v3 := y1.f 1
  have hR := hide hO.rd
  replace hb1 := hide hb1
  clear x y b0 x1 hO
  go_enter Try.func60, Try.ntmps60
  go_wp2_with (at_builtin; refine wpList_append_run rfl _ _ 23 rfl _ _ rfl rfl (fun v' w' => v' = .slice a' l c' ∧ w1 = w') ⟨_, _, hrun, rfl, rfl⟩ ?_; rintro v' w' ⟨rfl, rfl⟩)
  refine bodyPost_ret (results_cell_row rfl _ _ (w.heap.size + 1) 25 _ (0, 0) _ rfl (zb_fin y1 s a' l c') Try.underlying25 rfl (by kernel_rfl)) rfl ?_
  exact ⟨a', c', by simp, hR.out.only ((Only.set (w.heap.size + 1) 0 w1 _).trans (Only.set (w.heap.size + 1) 1 _ _)) (zb_apart y1 hR.out), (hb1.out.setCell (by show w.heap.size ≤ w.heap.size + 1; omega) _).setCell (by show w.heap.size ≤ w.heap.size + 1; omega) _⟩

set_option maxRecDepth 100000 in
set_option maxHeartbeats 1600000 in
theorem numbers5_n {w : World} {s : Bool} {a : Option Addr} {l c : Nat} {a2 : Option Addr} {c2 : Nat} {xs : List Int} (h : Rd w a l c xs) (h2 : Rd w a2 l c2 xs) (hl : l ≤ 1099511627776) :
    Calls Try.prog 64 #[.agg #[.bool s, .slice a l c], .agg #[.bool s, .slice a2 l c2]] w fun e w' => e = .returned (.bool true) ∧ Below w.heap.size w w' := by
  go_enter Try.func64, Try.ntmps64
  go_wp2_with fail
  have x := (zb_new w s a l c).below (below_alloc _ (.cells #[.bool s, .slice a2 l c2] 25))
  have y := zb_new (w.alloc (.cells #[.bool s, .slice a l c] 25)) s a2 l c2
  have b0 : Below w.heap.size w ((w.alloc (.cells #[.bool s, .slice a l c] 25)).alloc (.cells #[.bool s, .slice a2 l c2] 25)) := below_alloc' (below_alloc _ _) _
  rw [show (w.alloc (.cells #[.bool s, .slice a l c] 25)).heap.size = w.heap.size + 1 from by simp] at y
  generalize (w.alloc (.cells #[.bool s, .slice a l c] 25)).alloc (.cells #[.bool s, .slice a2 l c2] 25) = wb at *
  replace h := h.below b0
  replace h2 := h2.below b0
  have u1 := x.c1
  have u2 := y.c1
  replace b0 := hide b0
  clear x y
  obtain ⟨g1, g2, g3, g4, g5⟩ := h
  obtain ⟨-, -, -, -, k5⟩ := h2
  generalize hp : w.heap.size = p at *
  replace b0 : Hid (Below w.heap.size w wb) := hp ▸ b0
  replace hp := hide hp
  generalize p + 1 = q at *
  go_loopw [5] (fun i wr => ∃ t q : Nat, t ≤ l ∧ i = .int .i64 t ∧ wr = wb.drewN q) (fun i _ => l - (intOf i).toNat)
  case atStart => exact ⟨0, 0, Nat.zero_le _, rfl, rfl⟩
  case round =>
    obtain ⟨t, qd, ht, rfl, rfl⟩ := hrel
    by_cases htl : t < l
    · rcases g5 with ⟨-, h0, -⟩ | ⟨a1, rfl, h0 | ⟨b1, o1, rfl, hb1, hc1⟩⟩
      · omega
      · omega
      · rcases k5 with ⟨-, h0, -⟩ | ⟨a3, rfl, h0 | ⟨b2, o2, rfl, hb2, hc2⟩⟩
        · omega
        · omega
        · have e1 := hc1 t htl
          have e2 := hc2 t htl
          generalize lz xs t = z at *
          clear hc1 hc2
          go_wp2
          go_region
          go_wp2
          exact ⟨⟨t + 1, qd + 1, by omega, by go_num, rfl⟩, by simp [intOf]; omega⟩
    · obtain rfl : t = l := by omega
      go_wp2
      go_ret
      exact ⟨rfl, b0.out.trans (below_drewN _ _ _)⟩

theorem run_mkP (n : Nat) (hn : n ≤ 536870913) (u : World) : (Instr.makeSlice 22 (.int .i64 0) (.int .i64 (n : Int))).run Try.prog u =
      .ok (.slice (some ⟨u.heap.size, 0, none⟩) 0 n) (u.alloc (.cells (flat (List.replicate n zr)).toArray 62)) := by
  obtain ⟨i0, hi, hz0, hz1, hz2⟩ := info_parts infoP
  have h := run_make (P := Try.prog) u 22 62 i0 _ Try.underlying22 hi hz0 .i64 .i64 0 (n : Int) (by omega) (by omega) (by rw [hz2]; omega) (by omega)
  rw [Int.toNat_natCast, hz1] at h
  rw [← zeroP]
  exact h
/-- append of a part within the room of a block of parts -/
theorem run_append_rin {w : World} {g n cap : Nat} {L : List Raw} (hr : RB w g L) (hl : L.length = cap) (hroom : n + 1 ≤ cap) (x : Raw) (a : Addr) (ha : ∀ j u, (x.enc)[j]? = some u → w.cell? (a.add j) = some u) (ty : TypeId) :
    ∃ v' w', (Builtin.append_ #[22, 22] ty #[.slice (some ⟨g, 0, none⟩) n cap, .slice (some a) 1 1]).run Try.prog w = .ok v' w' ∧ v' = .slice (some ⟨g, 0, none⟩) (n + 1) cap ∧ RB w' g (L.set n x) ∧ w.grownBy w' (some g) := by
  obtain ⟨i0, hi, hz0, hz1, hz2⟩ := info_parts infoP
  have hxl : x.enc.length = 1 * i0.size := by rw [hz1]; rfl
  have hx1 : ∀ u ∈ x.enc, u.oneCell' = true := v3_one _ _ _ _ _
  have hfx : x.enc = flat [x] := by simp [flat]
  have hr' := run_append_room (P := Try.prog) w 22 ty 62 i0 Try.underlying22 hi g n cap (flat L).toArray hr a 1 1 x.enc hxl ha hx1 hroom (by rw [hz1]; simp [flat_length]; rw [show x.enc.length = 3 from rfl]; omega)
  have e1 : ((flat L).toArray.toList.take (n * i0.size) ++ x.enc ++ (flat L).toArray.toList.drop (n * i0.size + x.enc.length)) = flat (L.set n x) := by
    rw [hz1, show x.enc.length = 3 from rfl, show n * 3 + 3 = (n + 1) * 3 by omega, List.set_eq_take_append_cons_drop, if_pos (by omega)]
    dsimp only
    rw [flat_take, flat_drop, flat_append, hfx, List.append_assoc, ← flat_append]
    simp
  rw [e1] at hr'
  exact ⟨_, _, hr', rfl, setRow_heap w g _ _ _ _ hr, ⟨rfl, rfl, rfl, by simp, fun k _ hk => setRow_other w g k _ (fun e => hk (by rw [e]))⟩⟩

/-- one of the first parts of a block -/
abbrev gl (L : List Raw) (i : Nat) : Raw := L.getD i zr
/-- the first k parts of a block read as these, limb by limb -/
def LP (w : World) (L : List Raw) (k : Nat) (X : List (Int × Bool × List Int)) (B : Nat) : Prop := ∀ i, i < k → (gl L i).v = (gx X i).1 ∧ (gl L i).s = (gx X i).2.1 ∧ Rd w (gl L i).a (gl L i).l (gl L i).c (gx X i).2.2 ∧ (gl L i).l ≤ B ∧ I64 (gl L i).v
/-- a term that is lent: its parts, and a mark behind them -/
def LT (w : World) (g n : Nat) (X : List (Int × Bool × List Int)) (B : Nat) : Prop := ∃ L, RB w g L ∧ L.length = n + 1 ∧ X.length = n ∧ LP w L n X B ∧ (gl L n).v = 77
theorem LP.below {w w' : World} {L : List Raw} {k : Nat} {X : List (Int × Bool × List Int)} {B : Nat} (h : LP w L k X B) (hb : Below w.heap.size w w') : LP w' L k X B := fun i hi => ⟨(h i hi).1, (h i hi).2.1, (h i hi).2.2.1.below hb, (h i hi).2.2.2⟩
theorem LT.below {w w' : World} {g n : Nat} {X : List (Int × Bool × List Int)} {B : Nat} (h : LT w g n X B) (hb : Below w.heap.size w w') : LT w' g n X B := by
  obtain ⟨L, h1, h2, h3, h4, h5⟩ := h
  exact ⟨L, h1.below hb, h2, h3, h4.below hb, h5⟩
theorem gl_get {L : List Raw} {i : Nat} (h : i < L.length) : gl L i = L[i] := by simp [List.getElem?_eq_getElem h]
theorem LT.px {w : World} {g n : Nat} {X : List (Int × Bool × List Int)} {B : Nat} (h : LT w g n X B) : PX w (some ⟨g, 0, none⟩) n X B := by
  obtain ⟨L, h1, h2, h3, h4, h5⟩ := h
  refine ⟨h3, .inr ⟨g, 0, rfl, h1.lt, fun i hi => ?_⟩⟩
  obtain ⟨e1, e2, e3, e4, e5⟩ := h4 i hi
  have hi' : i < L.length := by omega
  have k0 := h1.c0 hi'
  have k1 := h1.c1 hi'
  have k2 := h1.c2 hi'
  rw [← gl_get hi'] at k0 k1 k2
  rw [Nat.zero_add, ← e1, ← e2]
  exact ⟨_, _, _, k0, k1, k2, e3, e4, e5⟩
/-- what the parts come to -/
def psX (X : List (Int × Bool × List Int)) : List (Int × Int) := X.map fun x => (x.1, sg x.2.1 (val x.2.2))
theorem PX.pr {w : World} {ad : Option Addr} {n : Nat} {X : List (Int × Bool × List Int)} {B : Nat} (h : PX w ad n X B) : Pr w ad n (psX X) B := by
  obtain ⟨h1, h2⟩ := h
  refine ⟨by simpa [psX] using h1, ?_⟩
  rcases h2 with h2 | ⟨b, off, e, hlt, h2⟩
  · exact .inl h2
  · refine .inr ⟨b, off, e, hlt, fun i hi => ?_⟩
    have hi' : i < X.length := by simpa [psX] using hi
    obtain ⟨a, l, c, e0, e1, e2, e3, e4, e5⟩ := h2 i (by omega)
    have eg : gx X i = X[i] := by simp [List.getElem?_eq_getElem hi']
    have ep : (psX X)[i] = ((gx X i).1, sg (gx X i).2.1 (val (gx X i).2.2)) := by rw [eg]; simp [psX]
    rw [ep]
    exact ⟨(gx X i).2.1, a, l, c, e0, e1, e2, zm_rd e3, e4, e5⟩


theorem lk5 {w w' : World} {p bp f t : Nat} {ad : Option Addr} {n cp : Nat} {s : Bool} {a : Option Addr} {l c : Nat} {u0 u1 u2 : Value} (x : TB w' p ad n cp s a l c) (g0 : w.cell? ⟨bp, f + t * 3, none⟩ = some u0) (g1 : w.cell? ⟨bp, f + t * 3 + 1, none⟩ = some u1) (g2 : w.cell? ⟨bp, f + t * 3 + 2, none⟩ = some u2) (hb : bp < w.heap.size) (k : Below w.heap.size w w') :
    w'.cell? ⟨p, 0, none⟩ = some (.slice ad n cp) ∧ w'.cell? ⟨bp, f + t * 3, none⟩ = some u0 ∧ w'.cell? ⟨bp, f + t * 3 + 1, none⟩ = some u1 ∧ w'.cell? ⟨bp, f + t * 3 + 2, none⟩ = some u2 :=
  ⟨x.c0, (k.cell (p := ⟨bp, f + t * 3, none⟩) hb).trans g0, (k.cell (p := ⟨bp, f + t * 3 + 1, none⟩) hb).trans g1, (k.cell (p := ⟨bp, f + t * 3 + 2, none⟩) hb).trans g2⟩
theorem lp_step {w w' : World} {g t B : Nat} {L L0 : List Raw} {X : List (Int × Bool × List Int)} (h : LP w L t X B) (hg : w.grownBy w' (some g)) (hr : RB w g L0) (htL : t < L.length) (x : Raw) (e1 : x.v = (gx X t).1) (e2 : x.s = (gx X t).2.1) (e3 : Rd w x.a x.l x.c (gx X t).2.2) (e4 : x.l ≤ B) (e5 : I64 x.v) : LP w' (L.set t x) (t + 1) X B := by
  intro i hi
  by_cases e : i = t
  · subst e
    have : gl (L.set i x) i = x := by simp [htL]
    rw [this]
    exact ⟨e1, e2, e3.grownU hg hr.noU, e4, e5⟩
  · have : gl (L.set t x) i = gl L i := by simp [Ne.symm e]
    rw [this]
    obtain ⟨k1, k2, k3, k4⟩ := h i (by omega)
    exact ⟨k1, k2, k3.grownU hg hr.noU, k4⟩
theorem lp_kept {w w' : World} {g k B : Nat} {L : List Raw} {X : List (Int × Bool × List Int)} (h : LP w L k X B) (hg : w.grownBy w' (some g)) (hm : NoU w g) : LP w' L k X B := fun i hi => ⟨(h i hi).1, (h i hi).2.1, (h i hi).2.2.1.grownU hg hm, (h i hi).2.2.2⟩

theorem flat_set1 (L : List Raw) : ∀ (t : Nat) (h : t < L.length) (v : Int), (flat L).set (t * 3) (.int .i64 v) = flat (L.set t ⟨v, (L[t]).s, (L[t]).a, (L[t]).l, (L[t]).c, (L[t]).z⟩) := by
  induction L with
  | nil => intro t ht; cases ht
  | cons x L ih =>
    intro t ht v
    have e : flat (x :: L) = .int .i64 x.v :: .bool x.s :: .slice x.a x.l x.c :: flat L := by simp [flat, Raw.enc]
    cases t with
    | zero =>
      rw [e]
      simp [flat, Raw.enc]
    | succ t =>
      have ht' : t < L.length := by simpa using ht
      have e2 : flat ((x :: L).set (t + 1) ⟨v, (L[t]).s, (L[t]).a, (L[t]).l, (L[t]).c, (L[t]).z⟩) = .int .i64 x.v :: .bool x.s :: .slice x.a x.l x.c :: flat (L.set t ⟨v, (L[t]).s, (L[t]).a, (L[t]).l, (L[t]).c, (L[t]).z⟩) := by simp [flat, Raw.enc]
      rw [show (x :: L)[t + 1] = L[t] from rfl, e, e2, ← ih t ht' v, show (t + 1) * 3 = t * 3 + 1 + 1 + 1 by omega]
      simp
theorem rb_set1 {w : World} {g : Nat} {L : List Raw} (h : RB w g L) {t : Nat} (ht : t < L.length) (v : Int) : RB (w.setCell ⟨g, t * 3, none⟩ (.int .i64 v)) g (L.set t ⟨v, (L[t]).s, (L[t]).a, (L[t]).l, (L[t]).c, (L[t]).z⟩) := by
  unfold RB
  refine (heap_setCell_same w g (t * 3) _ _ _ h).trans ?_
  rw [← flat_set1 L t ht v]
  simp
theorem anyH_append5 {P : Program} {w : World} {o : Oper} {a : Act} {K : Act → World → Prop} {Q : Exit → Act → World → Prop} {ys : Nat → Option Bool} (hgd : o.guard = none) (s x : Operand) (t : TypeId)
    (ho : o.op = .call { callee := .builtin .append, args := #[s, x], argTypes := #[t, t] }) (v1 v2 : Value) (hs : a.eval s = v1) (hx : a.eval x = v2) (F : Value → World → Prop)
    (hr : ∃ v' w', (Builtin.append_ #[t, t] o.type #[v1, v2]).run P w = .ok v' w' ∧ F v' w')
    (h : ∀ v' w', F v' w' → K (a.put o.dst v') w') : if Region.wanted o ys = true then Oper.wp P o a w K Q else K (a.put o.dst undef) w := by
  obtain ⟨v', w', hr, hF⟩ := hr
  rw [if_pos (by simp [Region.wanted, hgd])]
  unfold Oper.wp execOp
  simp only [ho, resolve, invoke, builtin, Sem.run_bind, Sem.run_pure, Result.andThen_ok, List.map_toArray, List.map_cons, List.map_nil, hs, hx, hr]
  exact h v' w' hF

set_option maxRecDepth 100000 in
set_option maxHeartbeats 1600000 in
theorem lent5_n {w : World} {ad : Option Addr} {n cp : Nat} {s : Bool} {a : Option Addr} {l c : Nat} {X : List (Int × Bool × List Int)} {xs : List Int} {B : Nat} (hX : PX w ad n X B) (hr : Rd w a l c xs) (hn : n ≤ 536870912) (hl : l ≤ 1099511627776) (hB : B ≤ 1099511627776) :
    Calls Try.prog 20 #[.agg #[.slice ad n cp, .bool s, .slice a l c]] w fun e w' => ∃ g a' c', e = .returned (.agg #[.slice (some ⟨g, 0, none⟩) n (n + 1), .bool s, .slice a' l c']) ∧ LT w' g n X B ∧ Rd w' a' l c' xs ∧ Below w.heap.size w w' := by
  have hmk : ∀ u : World, (Instr.makeSlice 22 (.int .i64 0) (.int .i64 ((n : Int) + 1))).run Try.prog u = .ok (.slice (some ⟨u.heap.size, 0, none⟩) 0 (n + 1)) (u.alloc (.cells (flat (List.replicate (n + 1) zr)).toArray 62)) := run_mkP (n + 1) (by omega)
  have x := ((tb_new w ad n cp s a l c).below (below_alloc _ (.cells #[.slice none 0 0, .bool false, .slice none 0 0] 27))).below (below_alloc _ (.cells (flat (List.replicate (n + 1) zr)).toArray 62))
  have y := (tb_new (w.alloc (.cells #[.slice ad n cp, .bool s, .slice a l c] 27)) none 0 0 false none 0 0).below (below_alloc _ (.cells (flat (List.replicate (n + 1) zr)).toArray 62))
  have z : RB _ _ _ := heap_alloc_new ((w.alloc (.cells #[.slice ad n cp, .bool s, .slice a l c] 27)).alloc (.cells #[.slice none 0 0, .bool false, .slice none 0 0] 27)) (.cells (flat (List.replicate (n + 1) zr)).toArray 62)
  have b0 : Below w.heap.size w (((w.alloc (.cells #[.slice ad n cp, .bool s, .slice a l c] 27)).alloc (.cells #[.slice none 0 0, .bool false, .slice none 0 0] 27)).alloc (.cells (flat (List.replicate (n + 1) zr)).toArray 62)) := below_alloc' (below_alloc' (below_alloc _ _) _) _
  rw [show (w.alloc (.cells #[.slice ad n cp, .bool s, .slice a l c] 27)).heap.size = w.heap.size + 1 from by simp] at y
  rw [show ((w.alloc (.cells #[.slice ad n cp, .bool s, .slice a l c] 27)).alloc (.cells #[.slice none 0 0, .bool false, .slice none 0 0] 27)).heap.size = w.heap.size + 1 + 1 from by simp] at z
  go_enter Try.func20, Try.ntmps20
  go_wp2_with fail
  clear hmk
  generalize ((w.alloc (.cells #[.slice ad n cp, .bool s, .slice a l c] 27)).alloc (.cells #[.slice none 0 0, .bool false, .slice none 0 0] 27)).alloc (.cells (flat (List.replicate (n + 1) zr)).toArray 62) = wb at *
  have hpq : w.heap.size < w.heap.size + 1 ∧ w.heap.size + 1 < w.heap.size + 1 + 1 := by omega
  generalize hp : w.heap.size = p at *
  replace b0 : Hid (Below w.heap.size w wb) := hp ▸ b0
  replace hp := hide hp
  replace hpq := hide hpq
  generalize p + 1 = q at *
  generalize q + 1 = g at *
  obtain ⟨hXn, hX⟩ := hX
  go_loopw [3, 4] (fun v i wr => ∃ (t : Nat) (L : List Raw), t ≤ n ∧ i = .int .i64 t ∧ v = .slice (some ⟨g, 0, none⟩) t (n + 1) ∧ Hid (TB wr p ad n cp s a l c) ∧ Hid (TB wr q none 0 0 false none 0 0) ∧ Hid (RB wr g L) ∧ L.length = n + 1 ∧ Hid (LP wr L t X B) ∧ Hid (∀ i, t ≤ i → i < n + 1 → gl L i = zr) ∧ Hid (Below w.heap.size w wr)) (fun _ i _ => n - (intOf i).toNat)
  case atStart => exact ⟨0, _, Nat.zero_le _, rfl, rfl, x, y, z, by simp, (fun i hi => absurd hi (by omega)), (fun i _ hi => by simp [hi]), b0⟩
  case round =>
    obtain ⟨t, L, ht, rfl, rfl, hx, hy, hR, hLl, hLP, hLz, kr⟩ := hrel
    by_cases htn : t < n
    · rcases hX with h0 | ⟨bp, f, rfl, hbp, hX⟩
      · omega
      obtain ⟨a3, l3, c3, g0, g1, g2, hr3, hl3, hv⟩ := hX t htn
      have u0 := hx.out.c0
      generalize hpp : gx X t = pp at *
      obtain ⟨pv, s3, xs3⟩ := pp
      replace hpp := hide hpp
      dsimp only at *
      replace hr3 := hide hr3
      replace g0 := hide g0
      replace g1 := hide g1
      replace g2 := hide g2
      have hbl : Hid (bp < w.heap.size) := hbp
      go_wp2_with fail
      have kd := grow_drew (Below.refl wr.heap.size wr)
      have kW := hide (grow_step kd kr.out)
      have xW := hide (hx.out.below kd)
      have yW := hide (hy.out.below kd)
      have rW := hide (hR.out.below kd)
      have pW := hide (hLP.out.below kd)
      clear kd u0
      refine wp_region_held_drew (S := (fun w' => w'.cell? ⟨p, 0, none⟩ = some (.slice (some ⟨bp, f, none⟩) n cp) ∧ w'.cell? ⟨bp, f + t * 3, none⟩ = some (.int .i64 pv) ∧ w'.cell? ⟨bp, f + t * 3 + 1, none⟩ = some (.bool s3) ∧ w'.cell? ⟨bp, f + t * 3 + 2, none⟩ = some (.slice a3 l3 c3))) (by kernel_rfl) (lk5 xW.out g0.out g1.out g2.out hbl.out kW.out) (fun hHeld => ?_)
      show wpAnyH _ _ _ _ _ 18 _ _ _
      refine wpAnyH_take (i := 0) (oi := ⟨some 18, _, _, _, _, _⟩) (v := ?_) rfl (by kernel_rfl) (by kernel_rfl) (by kernel_rfl) (fun _ _ _ h => h) (Or.inl ⟨by rfl, ?_⟩) (by assumption) ?_
      rotate_left
      · intro wq hSw; (try dsimp only at hSw); go_simp; (try with_reducible rfl)
      (try simp only [Act.put, List.setIfInBounds_toArray, List.set_cons_zero, List.set_cons_succ])
      refine wpAnyH_take (i := 1) (oi := ⟨some 19, _, _, _, _, _⟩) (v := ?_) rfl (by kernel_rfl) (by kernel_rfl) (by kernel_rfl) (fun _ _ _ h => h) (Or.inl ⟨by rfl, ?_⟩) (by assumption) ?_
      rotate_left
      · intro wq hSw; (try dsimp only at hSw); go_simp; (try with_reducible rfl)
      (try simp only [Act.put, List.setIfInBounds_toArray, List.set_cons_zero, List.set_cons_succ])
      refine wpAnyH_take (i := 2) (oi := ⟨some 20, _, _, _, _, _⟩) (v := ?_) rfl (by kernel_rfl) (by kernel_rfl) (by kernel_rfl) (fun _ _ _ h => h) (Or.inl ⟨by rfl, ?_⟩) (by assumption) ?_
      rotate_left
      · intro wq hSw; (try dsimp only at hSw); go_simp; (try with_reducible rfl)
      (try simp only [Act.put, List.setIfInBounds_toArray, List.set_cons_zero, List.set_cons_succ])
      refine wpAnyH_take (i := 3) (oi := ⟨some 21, _, _, _, _, _⟩) (v := ?_) rfl (by kernel_rfl) (by kernel_rfl) (by kernel_rfl) (fun _ _ _ h => h) (Or.inl ⟨by rfl, ?_⟩) (by assumption) ?_
      rotate_left
      · intro wq hSw; (try dsimp only at hSw); go_simp; (try with_reducible rfl)
      (try simp only [Act.put, List.setIfInBounds_toArray, List.set_cons_zero, List.set_cons_succ])
      refine wpAnyH_take (i := 4) (oi := ⟨some 22, _, _, _, _, _⟩) (v := ?_) rfl (by kernel_rfl) (by kernel_rfl) (by kernel_rfl) (fun _ _ _ h => h) (Or.inl ⟨by rfl, ?_⟩) (by assumption) ?_
      rotate_left
      · intro wq hSw; (try dsimp only at hSw); go_simp; (try with_reducible rfl)
      (try simp only [Act.put, List.setIfInBounds_toArray, List.set_cons_zero, List.set_cons_succ])
      refine wpAnyH_take (i := 5) (oi := ⟨some 23, _, _, _, _, _⟩) (v := ?_) rfl (by kernel_rfl) (by kernel_rfl) (by kernel_rfl) (fun _ _ _ h => h) (Or.inl ⟨by rfl, ?_⟩) (by assumption) ?_
      rotate_left
      · intro wq hSw; (try dsimp only at hSw); go_simp; (try with_reducible rfl)
      (try simp only [Act.put, List.setIfInBounds_toArray, List.set_cons_zero, List.set_cons_succ])
      refine wpAnyH_take (i := 6) (oi := ⟨some 24, _, _, _, _, _⟩) (v := ?_) rfl (by kernel_rfl) (by kernel_rfl) (by kernel_rfl) (fun _ _ _ h => h) (Or.inl ⟨by rfl, ?_⟩) (by assumption) ?_
      rotate_left
      · intro wq hSw; (try dsimp only at hSw); go_simp; (try with_reducible rfl)
      (try simp only [Act.put, List.setIfInBounds_toArray, List.set_cons_zero, List.set_cons_succ])
      refine wpAnyH_take (i := 7) (oi := ⟨some 25, _, _, _, _, _⟩) (v := ?_) rfl (by kernel_rfl) (by kernel_rfl) (by kernel_rfl) (fun _ _ _ h => h) (Or.inl ⟨by rfl, ?_⟩) (by assumption) ?_
      rotate_left
      · intro wq hSw; (try dsimp only at hSw); go_simp; (try with_reducible rfl)
      (try simp only [Act.put, List.setIfInBounds_toArray, List.set_cons_zero, List.set_cons_succ])
      refine wpAnyH_take (i := 8) (oi := ⟨some 26, _, _, _, _, _⟩) (v := ?_) rfl (by kernel_rfl) (by kernel_rfl) (by kernel_rfl) (fun _ _ _ h => h) (Or.inl ⟨by rfl, ?_⟩) (by assumption) ?_
      rotate_left
      · intro wq hSw; (try dsimp only at hSw); go_simp; (try with_reducible rfl)
      (try simp only [Act.put, List.setIfInBounds_toArray, List.set_cons_zero, List.set_cons_succ])
      refine wpAnyH_take (i := 9) (oi := ⟨some 27, _, _, _, _, _⟩) (v := ?_) rfl (by kernel_rfl) (by kernel_rfl) (by kernel_rfl) (fun _ _ _ h => h) (Or.inl ⟨by rfl, ?_⟩) (by assumption) ?_
      rotate_left
      · intro wq hSw; (try dsimp only at hSw); go_simp; (try with_reducible rfl)
      (try simp only [Act.put, List.setIfInBounds_toArray, List.set_cons_zero, List.set_cons_succ])
      refine wpAnyH_take (i := 10) (oi := ⟨some 28, _, _, _, _, _⟩) (v := ?_) rfl (by kernel_rfl) (by kernel_rfl) (by kernel_rfl) (fun _ _ _ h => h) (Or.inl ⟨by rfl, ?_⟩) (by assumption) ?_
      rotate_left
      · intro wq hSw; (try dsimp only at hSw); go_simp; (try with_reducible rfl)
      (try simp only [Act.put, List.setIfInBounds_toArray, List.set_cons_zero, List.set_cons_succ])
      refine wpAnyH_take (i := 11) (oi := ⟨some 29, _, _, _, _, _⟩) (v := ?_) rfl (by kernel_rfl) (by kernel_rfl) (by kernel_rfl) (fun _ _ _ h => h) (Or.inl ⟨by rfl, ?_⟩) (by assumption) ?_
      rotate_left
      · intro wq hSw; (try dsimp only at hSw); go_simp; (try with_reducible rfl)
      (try simp only [Act.put, List.setIfInBounds_toArray, List.set_cons_zero, List.set_cons_succ])
      refine wpAnyH_take (i := 12) (oi := ⟨some 30, _, _, _, _, _⟩) (v := ?_) rfl (by kernel_rfl) (by kernel_rfl) (by kernel_rfl) (fun _ _ _ h => h) (Or.inl ⟨by rfl, ?_⟩) (by assumption) ?_
      rotate_left
      · intro wq hSw; (try dsimp only at hSw); go_simp; (try with_reducible rfl)
      (try simp only [Act.put, List.setIfInBounds_toArray, List.set_cons_zero, List.set_cons_succ])
      refine wpAnyH_ready (rs := [13]) (by kernel_rfl) (by simp) ?_
      refine AllReadyH.cons (o := ⟨some 31, _, _, _, _, _⟩) rfl (fun K hK => ?_) AllReadyH.nil
      go_simp
      refine Calls.mono (number5_n (w := wr.drew) (hr3.out.below kW.out) (by omega)) ?_
      rintro e wN ⟨aN, cN, rfl, hN, kN⟩
      replace hN := hide hN
      have kN1 := hide (grow_step kN kW.out)
      have xN := hide (xW.out.below kN)
      have yN := hide (yW.out.below kN)
      have rN := hide (rW.out.below kN)
      have pN := hide (pW.out.below kN)
      clear kN
      (try go_wp2_with fail)
      refine hK.out _ _ ?_ ?_
      · (try dsimp only); exact lk5 xN.out g0.out g1.out g2.out hbl.out kN1.out
      clear hK K hHeld; intro hHeld
      (try simp only [Act.put, List.setIfInBounds_toArray, List.set_cons_zero, List.set_cons_succ])
      refine wpAnyH_ready (rs := [14]) (by kernel_rfl) (by simp) ?_
      refine AllReadyH.cons (o := ⟨some 32, _, _, _, _, _⟩) rfl (fun K hK => ?_) AllReadyH.nil
      go_simp
      refine hK.out _ _ ?_ ?_
      · (try dsimp only); exact lk5 xN.out g0.out g1.out g2.out hbl.out kN1.out
      clear hK K hHeld; intro hHeld
      (try simp only [Act.put, List.setIfInBounds_toArray, List.set_cons_zero, List.set_cons_succ])
      refine wpAnyH_ready (rs := [15]) (by kernel_rfl) (by simp) ?_
      refine AllReadyH.cons (o := ⟨some 33, _, _, _, _, _⟩) rfl (fun K hK => ?_) AllReadyH.nil
      have kL := below_alloc wN (.cells #[.int .i64 pv, .bool s3, .slice aN l3 cN] 62)
      have kL1 := hide (grow_step kL kN1.out)
      have xL := hide (xN.out.below kL)
      have yL := hide (yN.out.below kL)
      have rL := hide (rN.out.below kL)
      have pL := hide (pN.out.below kL)
      replace hN := hide (hN.out.below kL)
      have hv3 := hide (v3_new wN pv s3 aN l3 cN)
      clear kL
      go_simp
      refine hK.out _ _ ?_ ?_
      · (try dsimp only); exact lk5 xL.out g0.out g1.out g2.out hbl.out kL1.out
      clear hK K hHeld; intro hHeld
      (try simp only [Act.put, List.setIfInBounds_toArray, List.set_cons_zero, List.set_cons_succ])
      refine wpAnyH_ready (rs := [16]) (by kernel_rfl) (by simp) ?_
      refine AllReadyH.cons (o := ⟨some 34, _, _, _, _, _⟩) rfl (fun K hK => ?_) AllReadyH.nil
      refine anyH_append5 rfl _ _ 22 rfl _ _ rfl rfl _ (run_append_rin rL.out hLl (show t + 1 ≤ n + 1 by omega) ⟨pv, s3, aN, l3, cN, 0⟩ ⟨wN.heap.size, 0, none⟩ hv3.out _) ?_
      rintro v5 w5 ⟨rfl, hR5, hg5⟩
      have x5 := hide (xL.out.grown hg5 (by have := hpq.out; omega))
      have y5 := hide (yL.out.grown hg5 (by have := hpq.out; omega))
      have k5 := hide (below_grown kL1.out hg5 (by have := hpq.out; have := hp.out; omega))
      refine hK.out _ _ ?_ ?_
      · (try dsimp only); exact lk5 x5.out g0.out g1.out g2.out hbl.out k5.out
      clear hK K hHeld; intro hHeld
      (try simp only [Act.put, List.setIfInBounds_toArray, List.set_cons_zero, List.set_cons_succ])
      refine wpAnyH_ready (rs := [17]) (by kernel_rfl) (by simp) ?_
      refine AllReadyH.cons (o := ⟨some 3, _, _, _, _, _⟩) rfl (fun K hK => ?_) AllReadyH.nil
      go_simp
      refine hK.out _ _ ?_ ?_
      · (try dsimp only); exact lk5 x5.out g0.out g1.out g2.out hbl.out k5.out
      clear hK K hHeld; intro hHeld
      (try simp only [Act.put, List.setIfInBounds_toArray, List.set_cons_zero, List.set_cons_succ])
      refine wpAnyH_done (by kernel_rfl) ?_ _
      have hLP5 := hide (lp_step pL.out hg5 rL.out (show t < L.length by omega) ⟨pv, s3, aN, l3, cN, 0⟩ (by rw [hpp.out]) (by rw [hpp.out]) (by rw [hpp.out]; exact hN.out) hl3 hv)
      have hLz5 : Hid (∀ i, t + 1 ≤ i → i < n + 1 → gl (L.set t ⟨pv, s3, aN, l3, cN, 0⟩) i = zr) := (fun i h1 h2 => by
        have e : gl (L.set t ⟨pv, s3, aN, l3, cN, 0⟩) i = gl L i := by simp [show ¬ t = i by omega]
        rw [e]; exact hLz.out i (by omega) h2)
      replace hR5 := hide hR5
      clear hHeld hg5
      go_wp2_with fail
      exact ⟨⟨t + 1, _, by omega, by go_num, rfl, x5, y5, hR5, by rw [List.length_set]; exact hLl, hLP5, hLz5, k5⟩, by simp [intOf]; omega⟩
    · obtain rfl : t = n := by omega
      have hnL : t < L.length := by omega
      have u0 := hx.out.c0
      have e0 := hR.out.c0 hnL
      have f0 := hR.out.f (t * 3)
      have hg2 := gb_set wr g (t * 3) (.int .i64 77)
      have r2 := hide (rb_set1 hR.out hnL 77)
      have x2 := hide (hx.out.grown hg2 (by have := hpq.out; omega))
      have y2 := hide (hy.out.grown hg2 (by have := hpq.out; omega))
      have k2 := hide (below_grown kr.out hg2 (by have := hpq.out; have := hp.out; omega))
      have p2 := hide (lp_kept hLP.out hg2 hR.out.noU)
      have u1 := x2.out.c1
      have u2 := x2.out.c2
      generalize (L[t]).v = lv at e0
      clear hg2
      go_wp2_with fail
      generalize wr.setCell ⟨g, t * 3, none⟩ (.int .i64 77) = w2 at *
      clear e0 f0 u0 u1 u2
      refine (number5_n (hr.below k2.out) hl).mono ?_
      rintro e w3 ⟨a', c', rfl, hN, kN⟩
      have y3 := y2.out.below kN
      have v0 := y3.c0
      have v1 := y3.c1
      have v2 := y3.c2
      have v3 := y3.f 0
      have v4 := y3.f 1
      have v5 := y3.f 2
      have hT := tb_set w3 q (.slice (some ⟨g, 0, none⟩) t (t + 1)) (.bool s) (.slice a' l c')
      have hN3 := hide (hN.grownU hT (tb_noU y3))
      have k3 := hide (below_grown (grow_step kN k2.out) hT (by have := hpq.out; have := hp.out; omega))
      have r3 := hide ((r2.out.below kN).grown hT (by have := hpq.out; omega))
      have p3 := hide (lp_kept (p2.out.below kN) hT (tb_noU y3))
      clear hT kN hN
      go_wp2
      refine bodyPost_ret (results_cell_row rfl _ _ q 27 _ (0, 0) _ rfl (tb_fin y3 (some ⟨g, 0, none⟩) t (t + 1) s a' l c') Try.underlying27 rfl (by kernel_rfl)) rfl ?_
      refine ⟨g, a', c', by simp, ⟨_, r3.out, by rw [List.length_set]; exact hLl, hXn, fun i hi => ?_, by simp [hnL]⟩, hN3.out, k3.out⟩
      have e : gl (L.set t ⟨77, (L[t]).s, (L[t]).a, (L[t]).l, (L[t]).c, (L[t]).z⟩) i = gl L i := by simp [show ¬ t = i by omega]
      rw [e]
      exact p3.out i hi
end Go.Proofs.Ytagjfhipjbpoiaa

namespace Go.Proofs.Ytagjfhipjbpoiaa
open Go.RowKit Go.Sort Go.Shelf
open Tm

theorem sk7 {wb w' : World} {p q g b2 d o2 t : Nat} {ad : Option Addr} {n cp : Nat} {s : Bool} {a : Option Addr} {l c : Nat} {ad2 : Option Addr} {n2 cp2 : Nat} {s2 : Bool} {a2 : Option Addr} {l2 c2 : Nat} {u1 u2 v1 v2 : Value} (x : TB wb p ad n cp s a l c) (y : TB wb q ad2 n2 cp2 s2 a2 l2 c2) (g1 : wb.cell? ⟨g, d + 1, none⟩ = some u1) (g2 : wb.cell? ⟨g, d + 2, none⟩ = some u2) (hb1 : g < wb.heap.size) (k1 : wb.cell? ⟨b2, o2 + t * 3 + 1, none⟩ = some v1) (k2 : wb.cell? ⟨b2, o2 + t * 3 + 2, none⟩ = some v2) (hb2 : b2 < wb.heap.size) (k : Below wb.heap.size wb w') :
  w'.cell? ⟨p, 0, none⟩ = some (.slice ad n cp) ∧ w'.cell? ⟨q, 0, none⟩ = some (.slice ad2 n2 cp2) ∧ w'.cell? ⟨g, d + 1, none⟩ = some u1 ∧ w'.cell? ⟨g, d + 2, none⟩ = some u2 ∧ w'.cell? ⟨b2, o2 + t * 3 + 1, none⟩ = some v1 ∧ w'.cell? ⟨b2, o2 + t * 3 + 2, none⟩ = some v2 :=
 ⟨(x.below k).c0, (y.below k).c0, (k.cell (p := ⟨g, d + 1, none⟩) hb1).trans g1, (k.cell (p := ⟨g, d + 2, none⟩) hb1).trans g2, (k.cell (p := ⟨b2, o2 + t * 3 + 1, none⟩) hb2).trans k1, (k.cell (p := ⟨b2, o2 + t * 3 + 2, none⟩) hb2).trans k2⟩

set_option maxRecDepth 100000 in
set_option maxHeartbeats 1600000 in
theorem stays5_n {w : World} {g n : Nat} {s : Bool} {a : Option Addr} {l c : Nat} {ad2 : Option Addr} {cp2 : Nat} {a2 : Option Addr} {c2 : Nat} {X : List (Int × Bool × List Int)} {xs : List Int} {B : Nat} (hT : LT w g n X B) (hr : Rd w a l c xs) (hX : PX w ad2 n X B) (hr2 : Rd w a2 l c2 xs) (hn : n ≤ 536870912) (hl : l ≤ 1099511627776) (hB : B ≤ 1099511627776) :
  Calls Try.prog 35 #[.agg #[.slice (some ⟨g, 0, none⟩) n (n + 1), .bool s, .slice a l c], .agg #[.slice ad2 n cp2, .bool s, .slice a2 l c2]] w fun e w' => e = .returned (.bool true) ∧ Below w.heap.size w w' := by
 go_enter Try.func35, Try.ntmps35
 go_wp2_with fail
 have x := (tb_new w (some ⟨g, 0, none⟩) n (n + 1) s a l c).below (below_alloc _ (.cells #[.slice ad2 n cp2, .bool s, .slice a2 l c2] 27))
 have y := tb_new (w.alloc (.cells #[.slice (some ⟨g, 0, none⟩) n (n + 1), .bool s, .slice a l c] 27)) ad2 n cp2 s a2 l c2
 have b0 : Below w.heap.size w ((w.alloc (.cells #[.slice (some ⟨g, 0, none⟩) n (n + 1), .bool s, .slice a l c] 27)).alloc (.cells #[.slice ad2 n cp2, .bool s, .slice a2 l c2] 27)) := below_alloc' (below_alloc _ _) _
 rw [show (w.alloc (.cells #[.slice (some ⟨g, 0, none⟩) n (n + 1), .bool s, .slice a l c] 27)).heap.size = w.heap.size + 1 from by simp] at y
 generalize (w.alloc (.cells #[.slice (some ⟨g, 0, none⟩) n (n + 1), .bool s, .slice a l c] 27)).alloc (.cells #[.slice ad2 n cp2, .bool s, .slice a2 l c2] 27) = wb at *
 replace hr := hr.below b0
 replace hr2 := hr2.below b0
 have hP := hide (hT.below b0).px
 obtain ⟨L, hRB, hLl, -, -, h77⟩ := hT.below b0
 replace hX := hide (hX.below b0)
 have e77 := hRB.c0 (i := n) (by omega)
 rw [← gl_get (show n < L.length by omega), h77] at e77
 generalize hp : w.heap.size = p at *
 replace b0 : Hid (Below w.heap.size w wb) := hp ▸ b0
 replace hp := hide hp
 generalize p + 1 = q at *
 have u0 := x.c0
 have v0 := y.c0
 clear hRB hLl h77 hT
 go_quiet (fail)
 clear u0 v0 e77
 go_wp2_with fail
 have kq : Below wb.heap.size wb (wb.drewN nq) := below_drewN _ _ _
 go_loopw [5] (fun i wr => ∃ t : Nat, t ≤ n ∧ i = .int .i64 t ∧ Hid (Below wb.heap.size wb wr)) (fun i _ => n - (intOf i).toNat)
 case atStart => exact ⟨0, Nat.zero_le _, rfl, kq⟩
 case round =>
  obtain ⟨t, ht, rfl, kr⟩ := hrel
  have u0 := (x.below kr.out).c0
  have v0 := (y.below kr.out).c0
  by_cases htn : t < n
  ·rcases hP.out.2 with h0 | ⟨b1, o1, e1, hb1, h1⟩
   ·omega
   rcases hX.out.2 with h0 | ⟨b2, o2, e2, hb2, h2⟩
   ·omega
   cases e1
   subst e2
   obtain ⟨a3, l3, c3, g0, g1, g2, hr3, hl3, hv⟩ := h1 t htn
   obtain ⟨a4, l4, c4, k0, k1, k2, hr4, hl4, -⟩ := h2 t htn
   obtain rfl : l3 = l4 := hr3.1.symm.trans hr4.1
   rw [Nat.zero_add] at g0 g1 g2
   replace u0 := hide u0
   replace v0 := hide v0
   generalize gx X t = pp at *
   obtain ⟨pv, s3, xs3⟩ := pp
   dsimp only at *
   have hbb1 := Nat.lt_of_lt_of_le hb1 kr.out.size
   have i0 := u0.out
   have i1 := v0.out
   go_wp2_with fail
   refine wp_region_held_drew (S := (fun w' => w'.cell? ⟨p, 0, none⟩ = some (.slice (some ⟨g, 0, none⟩) n (n + 1)) ∧ w'.cell? ⟨q, 0, none⟩ = some (.slice (some ⟨b2, o2, none⟩) n cp2) ∧ w'.cell? ⟨g, t * 3 + 1, none⟩ = some (.bool s3) ∧ w'.cell? ⟨g, t * 3 + 2, none⟩ = some (.slice a3 l3 c3) ∧ w'.cell? ⟨b2, o2 + t * 3 + 1, none⟩ = some (.bool s3) ∧ w'.cell? ⟨b2, o2 + t * 3 + 2, none⟩ = some (.slice a4 l3 c4))) (by kernel_rfl) (sk7 x y g1 g2 hb1 k1 k2 hb2 (grow_drew kr.out)) (fun hHeld => ?_)
   show wpAnyH _ _ _ _ _ 14 _ _ _
   refine wpAnyH_take (i := 0) (oi := ⟨some 36, _, _, _, _, _⟩) (v := ?_) rfl (by kernel_rfl) (by kernel_rfl) (by kernel_rfl) (fun _ _ _ h => h) (Or.inl ⟨by rfl, ?_⟩) (by assumption) ?_
   rotate_left
   ·intro wq hSw; (try dsimp only at hSw); go_simp; (try with_reducible rfl)
   (try simp only [Act.put, List.setIfInBounds_toArray, List.set_cons_zero, List.set_cons_succ])
   refine wpAnyH_take (i := 1) (oi := ⟨some 37, _, _, _, _, _⟩) (v := ?_) rfl (by kernel_rfl) (by kernel_rfl) (by kernel_rfl) (fun _ _ _ h => h) (Or.inl ⟨by rfl, ?_⟩) (by assumption) ?_
   rotate_left
   ·intro wq hSw; (try dsimp only at hSw); go_simp; (try with_reducible rfl)
   (try simp only [Act.put, List.setIfInBounds_toArray, List.set_cons_zero, List.set_cons_succ])
   refine wpAnyH_take (i := 2) (oi := ⟨some 38, _, _, _, _, _⟩) (v := ?_) rfl (by kernel_rfl) (by kernel_rfl) (by kernel_rfl) (fun _ _ _ h => h) (Or.inl ⟨by rfl, ?_⟩) (by assumption) ?_
   rotate_left
   ·intro wq hSw; (try dsimp only at hSw); go_simp; (try with_reducible rfl)
   (try simp only [Act.put, List.setIfInBounds_toArray, List.set_cons_zero, List.set_cons_succ])
   refine wpAnyH_take (i := 3) (oi := ⟨some 39, _, _, _, _, _⟩) (v := ?_) rfl (by kernel_rfl) (by kernel_rfl) (by kernel_rfl) (fun _ _ _ h => h) (Or.inl ⟨by rfl, ?_⟩) (by assumption) ?_
   rotate_left
   ·intro wq hSw; (try dsimp only at hSw); go_simp; (try with_reducible rfl)
   (try simp only [Act.put, List.setIfInBounds_toArray, List.set_cons_zero, List.set_cons_succ])
   refine wpAnyH_take (i := 4) (oi := ⟨some 40, _, _, _, _, _⟩) (v := ?_) rfl (by kernel_rfl) (by kernel_rfl) (by kernel_rfl) (fun _ _ _ h => h) (Or.inl ⟨by rfl, ?_⟩) (by assumption) ?_
   rotate_left
   ·intro wq hSw; (try dsimp only at hSw); go_simp; (try with_reducible rfl)
   (try simp only [Act.put, List.setIfInBounds_toArray, List.set_cons_zero, List.set_cons_succ])
   refine wpAnyH_take (i := 5) (oi := ⟨some 41, _, _, _, _, _⟩) (v := ?_) rfl (by kernel_rfl) (by kernel_rfl) (by kernel_rfl) (fun _ _ _ h => h) (Or.inl ⟨by rfl, ?_⟩) (by assumption) ?_
   rotate_left
   ·intro wq hSw; (try dsimp only at hSw); go_simp; (try with_reducible rfl)
   (try simp only [Act.put, List.setIfInBounds_toArray, List.set_cons_zero, List.set_cons_succ])
   refine wpAnyH_take (i := 6) (oi := ⟨some 42, _, _, _, _, _⟩) (v := ?_) rfl (by kernel_rfl) (by kernel_rfl) (by kernel_rfl) (fun _ _ _ h => h) (Or.inl ⟨by rfl, ?_⟩) (by assumption) ?_
   rotate_left
   ·intro wq hSw; (try dsimp only at hSw); go_simp; (try with_reducible rfl)
   (try simp only [Act.put, List.setIfInBounds_toArray, List.set_cons_zero, List.set_cons_succ])
   refine wpAnyH_take (i := 7) (oi := ⟨some 43, _, _, _, _, _⟩) (v := ?_) rfl (by kernel_rfl) (by kernel_rfl) (by kernel_rfl) (fun _ _ _ h => h) (Or.inl ⟨by rfl, ?_⟩) (by assumption) ?_
   rotate_left
   ·intro wq hSw; (try dsimp only at hSw); go_simp; (try with_reducible rfl)
   (try simp only [Act.put, List.setIfInBounds_toArray, List.set_cons_zero, List.set_cons_succ])
   refine wpAnyH_take (i := 8) (oi := ⟨some 44, _, _, _, _, _⟩) (v := ?_) rfl (by kernel_rfl) (by kernel_rfl) (by kernel_rfl) (fun _ _ _ h => h) (Or.inl ⟨by rfl, ?_⟩) (by assumption) ?_
   rotate_left
   ·intro wq hSw; (try dsimp only at hSw); go_simp; (try with_reducible rfl)
   (try simp only [Act.put, List.setIfInBounds_toArray, List.set_cons_zero, List.set_cons_succ])
   refine wpAnyH_take (i := 9) (oi := ⟨some 45, _, _, _, _, _⟩) (v := ?_) rfl (by kernel_rfl) (by kernel_rfl) (by kernel_rfl) (fun _ _ _ h => h) (Or.inl ⟨by rfl, ?_⟩) (by assumption) ?_
   rotate_left
   ·intro wq hSw; (try dsimp only at hSw); go_simp; (try with_reducible rfl)
   (try simp only [Act.put, List.setIfInBounds_toArray, List.set_cons_zero, List.set_cons_succ])
   refine wpAnyH_take (i := 10) (oi := ⟨some 46, _, _, _, _, _⟩) (v := ?_) rfl (by kernel_rfl) (by kernel_rfl) (by kernel_rfl) (fun _ _ _ h => h) (Or.inl ⟨by rfl, ?_⟩) (by assumption) ?_
   rotate_left
   ·intro wq hSw; (try dsimp only at hSw); go_simp; (try with_reducible rfl)
   (try simp only [Act.put, List.setIfInBounds_toArray, List.set_cons_zero, List.set_cons_succ])
   refine wpAnyH_take (i := 11) (oi := ⟨some 47, _, _, _, _, _⟩) (v := ?_) rfl (by kernel_rfl) (by kernel_rfl) (by kernel_rfl) (fun _ _ _ h => h) (Or.inl ⟨by rfl, ?_⟩) (by assumption) ?_
   rotate_left
   ·intro wq hSw; (try dsimp only at hSw); go_simp; (try with_reducible rfl)
   (try simp only [Act.put, List.setIfInBounds_toArray, List.set_cons_zero, List.set_cons_succ])
   refine wpAnyH_ready (rs := [12]) (by kernel_rfl) (by simp) ?_
   refine AllReadyH.cons (o := ⟨some 48, _, _, _, _, _⟩) rfl (fun K hK => ?_) AllReadyH.nil
   go_simp
   refine Calls.mono (numbers5_n (w := wr.drew) (hr3.below (grow_drew kr.out)) (hr4.below (grow_drew kr.out)) (by omega)) ?_
   rintro e w5 ⟨rfl, k5⟩
   have kr5 := hide (grow_step k5 (grow_drew kr.out))
   clear k5
   (try go_wp2_with fail)
   refine hK.out _ _ ?_ ?_
   ·(try dsimp only); exact sk7 x y g1 g2 hb1 k1 k2 hb2 kr5.out
   clear hK K hHeld; intro hHeld
   (try simp only [Act.put, List.setIfInBounds_toArray, List.set_cons_zero, List.set_cons_succ])
   refine wpAnyH_ready (rs := [13]) (by kernel_rfl) (by simp) ?_
   refine AllReadyH.cons (o := ⟨some 6, _, _, _, _, _⟩) rfl (fun K hK => ?_) AllReadyH.nil
   go_simp
   refine hK.out _ _ ?_ ?_
   ·(try dsimp only); exact sk7 x y g1 g2 hb1 k1 k2 hb2 kr5.out
   clear hK K hHeld; intro hHeld
   (try simp only [Act.put, List.setIfInBounds_toArray, List.set_cons_zero, List.set_cons_succ])
   refine wpAnyH_done (by kernel_rfl) ?_ _
   have m0 := (x.below kr5.out).c0
   have m1 := (y.below kr5.out).c0
   have m2 := (kr5.out.cell (p := ⟨g, t * 3, none⟩) hb1).trans g0
   have m3 := (kr5.out.cell (p := ⟨b2, o2 + t * 3, none⟩) hb2).trans k0
   clear hHeld
   go_wp2_with fail
   go_quiet (fail)
   have kf := hide (grow_drewN kr5.out nq)
   go_wp2_with fail
   exact ⟨⟨t + 1, by omega, by go_num, kf⟩, by simp [intOf]; omega⟩
  ·obtain rfl : t = n := by omega
   have u1 := (x.below kr.out).c1
   have u2 := (x.below kr.out).c2
   have v1 := (y.below kr.out).c1
   have v2 := (y.below kr.out).c2
   have hc := hide (numbers5_n (s := s) (hr.below kr.out) (hr2.below kr.out) hl)
   go_wp2_with fail
   refine hc.out.mono ?_
   rintro e w2 ⟨rfl, k2⟩
   have kf : Hid (Below w.heap.size w w2) := b0.out.trans ((grow_step k2 kr.out).mono b0.out.size)
   clear k2
   go_wp2
   go_ret
   exact ⟨rfl, kf.out⟩
end Go.Proofs.Ytagjfhipjbpoiaa

namespace Go.Proofs.Ytagjfhipjbpoiaa
open Go.RowKit Go.Sort Go.Shelf
open Tm

/-- all is there still but for blocks from F on, below G -/
structure Keep (F G : Nat) (w w' : World) : Prop where
 os : w'.os = w.os
 tape : w'.tape = w.tape
 output : w'.output = w.output
 size : w.heap.size ≤ w'.heap.size
 block : ∀ k, k < w.heap.size → ¬ (F ≤ k ∧ k < G) → w'.heap[k]? = w.heap[k]?
theorem Keep.refl (F G : Nat) (w : World) : Keep F G w w := ⟨rfl, rfl, rfl, Nat.le_refl _, fun _ _ _ => rfl⟩
theorem Keep.trans {F G : Nat} {w w1 w2 : World} (h : Keep F G w w1) (k : Keep F G w1 w2) : Keep F G w w2 :=
 ⟨k.os.trans h.os, k.tape.trans h.tape, k.output.trans h.output, Nat.le_trans h.size k.size, fun i hi hn => (k.block i (Nat.lt_of_lt_of_le hi h.size) hn).trans (h.block i hi hn)⟩
theorem keep_below {F G : Nat} {w w' : World} (h : Below w.heap.size w w') : Keep F G w w' := ⟨h.os, h.tape, h.output, h.size, fun k hk _ => h.block k hk⟩
theorem keep_grown {F G m : Nat} {w w' : World} (h : w.grownBy w' (some m)) (hm : F ≤ m ∧ m < G) : Keep F G w w' := ⟨h.os, h.tape, h.output, h.size, fun k hk hn => h.block k hk (fun e => by cases e; exact hn hm)⟩
/-- a row of limbs of its own, from block F on, below G; or nothing -/
def FG (F G : Nat) (w : World) (ad : Option Addr) (cap : Nat) : Prop := (ad = none ∧ cap = 0) ∨ ∃ b xs, ad = some ⟨b, 0, none⟩ ∧ F ≤ b ∧ b < G ∧ Row w b xs ∧ xs.length = cap ∧ cap ≤ 9223372036854775807
/-- an answer that its owner may write over: all that it has lies from block F on, below G -/
def NG (F G : Nat) (w : World) (ad : Option Addr) (n cp : Nat) (a : Option Addr) (l c : Nat) : Prop :=
 ((ad = none ∧ n = 0 ∧ cp = 0) ∨ ∃ g L, ad = some ⟨g, 0, none⟩ ∧ F ≤ g ∧ g < G ∧ RB w g L ∧ L.length = cp ∧ n ≤ cp ∧ cp ≤ maxLen ∧ ∀ x ∈ L, x.l ≤ x.c ∧ FG F G w x.a x.c) ∧ l ≤ c ∧ FG F G w a c
theorem fg_of {F : Nat} {w : World} {ad : Option Addr} {cap : Nat} (h : Fresh.Fr F w ad cap) : FG F w.heap.size w ad cap := by
 rcases h with h | ⟨b, xs, h1, h2, h3, h4⟩
 ·exact .inl h
 ·exact .inr ⟨b, xs, h1, h2, Fresh.row_lt h3, h3, h4⟩
theorem ng_of {F : Nat} {w : World} {ad : Option Addr} {n cp : Nat} {a : Option Addr} {l c : Nat} (h : Fresh.NW F w ad n cp a l c) : NG F w.heap.size w ad n cp a l c := by
 obtain ⟨L, h1, h2, h3, h4⟩ := h
 refine ⟨?_, h3, fg_of h4⟩
 rcases h1 with ⟨e, h5, h6, _⟩ | ⟨g, e, hb, hr, hl, hn, hm⟩
 ·cases e; exact .inl ⟨rfl, rfl, rfl⟩
 ·cases e
  exact .inr ⟨g, L, rfl, hb, hr.lt, hr, hl, hn, hm, fun x hx => ⟨(h2 x hx).1, fg_of (h2 x hx).2⟩⟩
theorem FG.keep {F G F' G' : Nat} {w w' : World} {ad : Option Addr} {cap : Nat} (h : FG F G w ad cap) (hk : Keep F' G' w w') (hd : G ≤ F' ∨ G' ≤ F) : FG F G w' ad cap := by
 rcases h with h | ⟨b, xs, h1, h2, h3, h4, h5⟩
 ·exact .inl h
 ·exact .inr ⟨b, xs, h1, h2, h3, (hk.block b (Fresh.row_lt h4) (by omega)).trans h4, h5⟩
theorem NG.keep {F G F' G' : Nat} {w w' : World} {ad : Option Addr} {n cp : Nat} {a : Option Addr} {l c : Nat} (h : NG F G w ad n cp a l c) (hk : Keep F' G' w w') (hd : G ≤ F' ∨ G' ≤ F) : NG F G w' ad n cp a l c := by
 refine ⟨?_, h.2.1, h.2.2.keep hk hd⟩
 rcases h.1 with h1 | ⟨g, L, e, h2, h3, h4, h5, h6, h7, h8⟩
 ·exact .inl h1
 ·exact .inr ⟨g, L, e, h2, h3, (hk.block g h4.lt (by omega)).trans h4, h5, h6, h7, fun x hx => ⟨(h8 x hx).1, (h8 x hx).2.keep hk hd⟩⟩
theorem NG.below {F G : Nat} {w w' : World} {ad : Option Addr} {n cp : Nat} {a : Option Addr} {l c : Nat} (h : NG F G w ad n cp a l c) (hb : Below w.heap.size w w') : NG F G w' ad n cp a l c := h.keep (keep_below (F := G) (G := G) hb) (.inl (Nat.le_refl _))
/-- a limb is written -/
theorem fg_set {F G : Nat} {w : World} {ad : Option Addr} {cap : Nat} {b i : Nat} {xs : List Int} (h : FG F G w ad cap) (hr : Row w b xs) (z : Int) : FG F G (w.setCell ⟨b, i, none⟩ (.int .u32 z)) ad cap := by
 rcases h with h | ⟨b', ys, h1, h2, h3, h4, h5, h6⟩
 ·exact .inl h
 ·by_cases e : b' = b
  ·subst e
   exact .inr ⟨b', ys.set i z, h1, h2, h3, h4.set i z, by rw [List.length_set]; exact h5, h6⟩
  ·exact .inr ⟨b', ys, h1, h2, h3, (Below.heap_setCell _ _ _ _ e).trans h4, h5, h6⟩
theorem rb_row {w : World} {g b : Nat} {L : List Raw} {xs : List Int} (h : RB w g L) (hr : Row w b xs) : g ≠ b := by
 rintro rfl
 exact Fresh.nr_rb h xs hr
theorem tb_row {w : World} {p b : Nat} {ad : Option Addr} {n cp : Nat} {s : Bool} {a : Option Addr} {l c : Nat} {xs : List Int} (h : TB w p ad n cp s a l c) (hr : Row w b xs) : p ≠ b := by
 rintro rfl
 exact Fresh.nr_tb h xs hr
/-- a part that was written over -/
def z9 : Raw := ⟨-9, false, none, 0, 0, 0⟩

theorem FG.grownN {F G m : Nat} {w w' : World} {ad : Option Addr} {cap : Nat} (h : FG F G w ad cap) (hg : w.grownBy w' (some m)) (hm : Fresh.NR w m) : FG F G w' ad cap := by
 rcases h with h | ⟨b, xs, h1, h2, h3, h4, h5⟩
 ·exact .inl h
 ·exact .inr ⟨b, xs, h1, h2, h3, (hg.block b (Fresh.row_lt h4) (fun e => by cases e; exact hm xs h4)).trans h4, h5⟩
/-- an answer with parts while it is written over -/
def OQ (F G : Nat) (wb w : World) (p g : Nat) (L : List Raw) (n cp : Nat) (s : Bool) (a : Option Addr) (l c : Nat) : Prop :=
 TB w p (some ⟨g, 0, none⟩) n cp s a l c ∧ FG F G w a c ∧ Keep F G wb w ∧ F ≤ g ∧ g < G ∧ RB w g L ∧ L.length = cp ∧ ∀ x ∈ L, x.l ≤ x.c ∧ FG F G w x.a x.c
/-- an answer while it is written over -/
def OV (F G : Nat) (wb w : World) (p : Nat) (ad : Option Addr) (n cp : Nat) (s : Bool) (a : Option Addr) (l c : Nat) : Prop :=
 (cp = 0 ∧ TB w p ad n cp s a l c ∧ FG F G w a c ∧ Keep F G wb w) ∨ ∃ g L, ad = some ⟨g, 0, none⟩ ∧ OQ F G wb w p g L n cp s a l c
theorem OV.tb {F G : Nat} {wb w : World} {p : Nat} {ad : Option Addr} {n cp : Nat} {s : Bool} {a : Option Addr} {l c : Nat} (h : OV F G wb w p ad n cp s a l c) : TB w p ad n cp s a l c ∧ FG F G w a c ∧ Keep F G wb w := by
 rcases h with h | ⟨g, L, rfl, h⟩
 ·exact h.2
 ·exact ⟨h.1, h.2.1, h.2.2.1⟩
theorem OQ.limb {F G : Nat} {wb w : World} {p g : Nat} {L : List Raw} {n cp : Nat} {s : Bool} {a : Option Addr} {l c b i : Nat} {xs : List Int} (h : OQ F G wb w p g L n cp s a l c) (hr : Row w b xs) (hb : F ≤ b ∧ b < G) (z : Int) : OQ F G wb (w.setCell ⟨b, i, none⟩ (.int .u32 z)) p g L n cp s a l c := by
 have hg := gb_set w b i (.int .u32 z)
 obtain ⟨h1, h2, h3, h4, h5, h6, h7, h8⟩ := h
 exact ⟨h1.grown hg (tb_row h1 hr), fg_set h2 hr z, h3.trans (keep_grown hg hb), h4, h5, h6.grown hg (rb_row h6 hr), h7, fun x hx => ⟨(h8 x hx).1, fg_set (h8 x hx).2 hr z⟩⟩
theorem OV.limb {F G : Nat} {wb w : World} {p : Nat} {ad : Option Addr} {n cp : Nat} {s : Bool} {a : Option Addr} {l c b i : Nat} {xs : List Int} (h : OV F G wb w p ad n cp s a l c) (hr : Row w b xs) (hb : F ≤ b ∧ b < G) (z : Int) : OV F G wb (w.setCell ⟨b, i, none⟩ (.int .u32 z)) p ad n cp s a l c := by
 have hg := gb_set w b i (.int .u32 z)
 rcases h with ⟨h0, h1, h2, h3⟩ | ⟨g, L, e, h⟩
 ·exact .inl ⟨h0, h1.grown hg (tb_row h1 hr), fg_set h2 hr z, h3.trans (keep_grown hg hb)⟩
 ·exact .inr ⟨g, L, e, h.limb hr hb z⟩
theorem OQ.part {F G : Nat} {wb w : World} {p g t : Nat} {L : List Raw} {n cp : Nat} {s : Bool} {a : Option Addr} {l c : Nat} (h : OQ F G wb w p g L n cp s a l c) (ht : t < cp) :
  OQ F G wb (((w.setCell ⟨g, t * 3, none⟩ (.int .i64 (-9))).setCell ⟨g, t * 3 + 1, none⟩ (.bool false)).setCell ⟨g, t * 3 + 2, none⟩ (.slice none 0 0)) p g (L.set t z9) n cp s a l c := by
 have hg : w.grownBy (((w.setCell ⟨g, t * 3, none⟩ (.int .i64 (-9))).setCell ⟨g, t * 3 + 1, none⟩ (.bool false)).setCell ⟨g, t * 3 + 2, none⟩ (.slice none 0 0)) (some g) := gb_trans (gb_trans (gb_set _ _ _ _) (gb_set _ _ _ _)) (gb_set _ _ _ _)
 obtain ⟨h1, h2, h3, h4, h5, h6, h7, h8⟩ := h
 have hn := Fresh.nr_rb h6
 refine ⟨h1.grown hg (fun e => (Fresh.rb_tb h6 h1) e.symm), h2.grownN hg hn, h3.trans (keep_grown hg ⟨h4, h5⟩), h4, h5, rb_set3 h6 (by omega) z9, by rw [List.length_set]; exact h7, fun x hx => ?_⟩
 rcases List.mem_or_eq_of_mem_set hx with h | rfl
 ·exact ⟨(h8 x h).1, (h8 x h).2.grownN hg hn⟩
 ·exact ⟨Nat.le_refl _, .inl ⟨rfl, rfl⟩⟩

set_option maxRecDepth 100000 in
set_option maxHeartbeats 1600000 in
theorem over5_n {F G : Nat} {w : World} {ad : Option Addr} {n cp : Nat} {s : Bool} {a : Option Addr} {l c : Nat} (h : NG F G w ad n cp a l c) :
  Calls Try.prog 34 #[.agg #[.slice ad n cp, .bool s, .slice a l c]] w fun e w' => (∃ v, e = .returned v) ∧ Keep F G w w' := by
 go_enter Try.func34, Try.ntmps34
 go_wp2_with fail
 have x := tb_new w ad n cp s a l c
 have b0 := below_alloc w (.cells #[.slice ad n cp, .bool s, .slice a l c] 27)
 replace h := h.below b0
 have kb : Hid (Keep F G w (w.alloc (.cells #[.slice ad n cp, .bool s, .slice a l c] 27))) := keep_below b0
 clear b0
 generalize w.alloc (.cells #[.slice ad n cp, .bool s, .slice a l c] 27) = wb at *
 generalize hp : w.heap.size = p at *
 replace hp := hide hp
 obtain ⟨hP, hlc, hK⟩ := h
 have hI : OV F G wb wb p ad n cp s a l c := by
  rcases hP with ⟨h1, h2, h3⟩ | ⟨g, L, rfl, h2, h3, h4, h5, h6, h7, h8⟩
  ·exact .inl ⟨h3, x, hK, Keep.refl _ _ _⟩
  ·exact .inr ⟨g, L, rfl, x, hK, Keep.refl _ _ _, h2, h3, h4, h5, h8⟩
 have hcm : cp ≤ 9223372036854775807 := by
  rcases hP with ⟨_, _, h3⟩ | ⟨_, _, _, _, _, _, _, _, h7, _⟩
  ·omega
  ·unfold maxLen at h7; omega
 clear hP hK x
 go_loopw [3] (fun i wr => ∃ t : Nat, t ≤ cp ∧ i = .int .i64 t ∧ Hid (OV F G wb wr p ad n cp s a l c)) (fun i _ => cp - (intOf i).toNat)
 case atStart => exact ⟨0, Nat.zero_le _, rfl, hI⟩
 case round =>
  obtain ⟨t, ht, rfl, hO⟩ := hrel
  by_cases htc : t < cp
  ·rcases hO.out with h0 | ⟨g, L, rfl, hQ⟩
   ·omega
   have htL : t < L.length := by have := hQ.2.2.2.2.2.2.1; omega
   have c2 := hQ.2.2.2.2.2.1.c2 htL
   have hxl := (hQ.2.2.2.2.2.2.2 L[t] (List.getElem_mem htL)).1
   generalize hxr : L[t] = xr at *
   replace hxr := hide hxr
   replace hQ := hide hQ
   clear hO
   go_wp2_with fail
   clear c2
   go_loopw [4] (fun i wr => ∃ k : Nat, k ≤ xr.l ∧ i = .int .i64 k ∧ Hid (OQ F G wb wr p g L n cp s a l c)) (fun i _ => xr.l - (intOf i).toNat)
   case atStart => exact ⟨0, Nat.zero_le _, rfl, hQ⟩
   case round =>
    obtain ⟨k, hk, rfl, hO2⟩ := hrel
    have hR := hO2.out.2.2.2.2.2.1
    have e2 := hxr.out ▸ hR.c2 htL
    by_cases hkl : k < xr.l
    ·rcases hxr.out ▸ (hO2.out.2.2.2.2.2.2.2 L[t] (List.getElem_mem htL)).2 with ⟨h1, h2⟩ | ⟨b, zs, h1, h2, h3, h4, h5, h6⟩
     ·omega
     have hnext := hide (hO2.out.limb (i := k) h4 ⟨h2, h3⟩ 9)
     have e3 := h4.cell (i := k) (by omega)
     have e4 := h4.frozen k
     rw [h1] at e2
     generalize lz zs k = zk at e3
     clear hR h4
     go_wp2_with fail
     exact ⟨⟨k + 1, by omega, by go_num, hnext⟩, by simp [intOf]; omega⟩
    ·obtain rfl : k = xr.l := by omega
     have hnext := hide (OQ.part (t := t) hO2.out htc)
     have e0 := hR.c0 htL
     have e1 := hR.c1 htL
     have f0 := hR.f (t * 3)
     have f1 := hR.f (t * 3 + 1)
     have f2 := hR.f (t * 3 + 2)
     clear hR
     go_wp2_with fail
     exact ⟨⟨t + 1, by omega, by go_num, .inr ⟨g, _, rfl, hnext.out⟩⟩, by simp [intOf]; omega⟩
  ·obtain rfl : t = cp := by omega
   go_wp2_with fail
   go_loopw [5] (fun i wr => ∃ k : Nat, k ≤ l ∧ i = .int .i64 k ∧ Hid (OV F G wb wr p ad n t s a l c)) (fun i _ => l - (intOf i).toNat)
   case atStart => exact ⟨0, Nat.zero_le _, rfl, hO⟩
   case round =>
    obtain ⟨k, hk, rfl, hO2⟩ := hrel
    have e2 := hO2.out.tb.1.c2
    by_cases hkl : k < l
    ·rcases hO2.out.tb.2.1 with ⟨h1, h2⟩ | ⟨b, zs, h1, h2, h3, h4, h5, h6⟩
     ·omega
     have hnext := hide (hO2.out.limb (i := k) h4 ⟨h2, h3⟩ 9)
     have e3 := h4.cell (i := k) (by omega)
     have e4 := h4.frozen k
     subst h1
     generalize lz zs k = zk at e3
     clear h4
     go_wp2_with fail
     exact ⟨⟨k + 1, by omega, by go_num, hnext⟩, by simp [intOf]; omega⟩
    ·obtain rfl : k = l := by omega
     have kf := hide (kb.out.trans hO2.out.tb.2.2)
     go_wp2
     exact ⟨rfl, _, results_none rfl _ _ _, ⟨_, rfl⟩, kf.out⟩
end Go.Proofs.Ytagjfhipjbpoiaa

namespace Go.Proofs.Ytagjfhipjbpoiaa
open Go.RowKit Go.Sort Go.Shelf
open Tm

open Classical in
theorem pn_px {w : World} {ad : Option Addr} {n : Nat} {ps : List (Int × Int)} {B : Nat} (h : Pn w ad n ps B) (hS : Std ps) : ∃ X, PX w ad n X B ∧ VX X := by
 obtain ⟨hn, h2⟩ := h
 rcases h2 with h2 | ⟨b, off, e, hlt, h2⟩
 ·exact ⟨(List.range n).map fun _ => (0, false, []), ⟨by simp, .inl h2⟩, fun i hi => by simp at hi; omega⟩
 ·have hx : ∀ i, ∃ x : Int × Bool × List Int, (h : i < ps.length) → x.1 = (ps[i]).1 ∧ okX x ∧ ∃ a l c, w.cell? ⟨b, off + i * 3, none⟩ = some (.int .i64 x.1) ∧ w.cell? ⟨b, off + i * 3 + 1, none⟩ = some (.bool x.2.1) ∧ w.cell? ⟨b, off + i * 3 + 2, none⟩ = some (.slice a l c) ∧ Rd w a l c x.2.2 ∧ l ≤ B ∧ I64 x.1 := fun i => by
   by_cases hi : i < ps.length
   ·obtain ⟨s, a, l, c, e0, e1, e2, hz, hl, hv⟩ := h2 i hi
    obtain ⟨xs, hr, hst, hval⟩ := hz.stands
    refine ⟨((ps[i]).1, s, xs), fun _ => ⟨rfl, ⟨by rw [hr.1]; exact hst, fun h0 => ?_⟩, a, l, c, e0, e1, e2, hr, hl, hv⟩⟩
    exact hS.2 _ (List.getElem_mem hi) (hval.symm.trans (sg_zero.2 h0))
   ·exact ⟨(0, false, []), fun h => absurd h hi⟩
  refine ⟨(List.range n).map fun i => Classical.choose (hx i), ⟨by simp, .inr ⟨b, off, e, hlt, fun i hi => ?_⟩⟩, fun i hi => ?_⟩
  ·rw [gx_range hi]
   exact (Classical.choose_spec (hx i) (by omega)).2.2
  ·have hi' : i < n := by simpa using hi
   rw [gx_range hi', gx_range (by omega)]
   have h3 := Classical.choose_spec (hx i) (by omega)
   refine ⟨h3.2.1, fun h0 => ?_⟩
   have h4 := Classical.choose_spec (hx (i - 1)) (by omega)
   rw [h3.1, h4.1]
   exact List.pairwise_iff_getElem.1 hS.1 (i - 1) i (by omega) (by omega) (by omega)
theorem TN.pn {w w' : World} {ad : Option Addr} {n : Nat} {s : Bool} {a : Option Addr} {l c : Nat} {rs : List Raw} {k : Int} {B : Nat} (h : TN w w' ad n s a l c rs k B) : Pn w' ad n (rs.map Raw.p) B := by
 obtain ⟨w1, h1, h2, ⟨h3, h4⟩, _⟩ := h
 refine ⟨by simpa using h3, ?_⟩
 rcases h4 with ⟨_, h4⟩ | ⟨g, e, hg, hlt, h4⟩
 ·exact .inl h4
 ·refine .inr ⟨g, 0, e, hlt, fun i hi => ?_⟩
  have hi' : i < rs.length := by simpa using hi
  obtain ⟨⟨c0, c1, c2⟩, _, hz, hl, hv⟩ := h4 i hi'
  rw [List.getElem_map, Nat.zero_add]
  exact ⟨_, _, _, _, c0, c1, c2, hz.below h2, hl, hv⟩
end Go.Proofs.Ytagjfhipjbpoiaa

namespace Go.Proofs.Ytagjfhipjbpoiaa
open Go.RowKit Go.Sort Go.Shelf
open Tm

theorem std_lays (ps : List (Int × Int)) : Std (nz (lays [] ps)) := std_nz (rise_lays ps (by simp [Rise]))
theorem csum_nzl (ps : List (Int × Int)) (v : Int) : csum (nz (lays [] ps)) v = csum ps v := by rw [csum_nz, csum_lays]; simp [csum]
theorem lays_eq {ps qs : List (Int × Int)} (h : Std qs) (hc : ∀ v, csum qs v = csum ps v) : qs = nz (lays [] ps) := std_unique h (std_lays ps) fun v => (hc v).trans (csum_nzl ps v).symm
theorem Pn.tb {w w' : World} {p : Nat} {ad0 : Option Addr} {n0 cp0 : Nat} {s0 : Bool} {a0 : Option Addr} {l0 c0 : Nat} {ad : Option Addr} {n : Nat} {ps : List (Int × Int)} {B : Nat} (h : Pn w ad n ps B) (y : TB w p ad0 n0 cp0 s0 a0 l0 c0) (hg : w.grownBy w' (some p)) : Pn w' ad n ps B := by
 refine ⟨h.1, ?_⟩
 rcases h.2 with h2 | ⟨b, off, e, hb, h2⟩
 ·exact .inl h2
 ·by_cases h0 : ps.length = 0
  ·exact .inl (h.1.symm.trans h0)
  ·refine .inr ⟨b, off, e, Nat.lt_of_lt_of_le hb hg.size, fun i hi => ?_⟩
   obtain ⟨s, a, l, c, e0, e1, e2, hz, hl⟩ := h2 i hi
   have hne : b ≠ p := by
    intro e
    subst e
    rw [cell_of_row w b _ _ _ (0, 0) y] at e0
    match hk : off + i * 3, e0 with
    | 0, e0 => simp at e0
    | 1, e0 => simp at e0
    | 2, e0 => simp at e0
    | k + 3, e0 => simp at e0
   have eb : w'.heap[b]? = w.heap[b]? := hg.block b hb (by simpa using hne)
   exact ⟨s, a, l, c, (World.cell?_of_block (a := ⟨b, off + i * 3, none⟩) eb).trans e0, (World.cell?_of_block (a := ⟨b, off + i * 3 + 1, none⟩) eb).trans e1, (World.cell?_of_block (a := ⟨b, off + i * 3 + 2, none⟩) eb).trans e2, hz.grownU hg (tb_noU y), hl⟩
theorem ordL_self (ps : List (Int × Int)) : ordL ps ps = 0 := by
 induction ps with
 | nil => rfl
 | cons p ps ih => simp [ordL, ordQ, cmpI_self, ih]
theorem ordT_self (ps : List (Int × Int)) (k : Int) : ordT ps ps k k = 0 := by simp [ordT, ordL_self, cmpI_self]

set_option maxRecDepth 100000 in
set_option maxHeartbeats 3200000 in
theorem same5_t {w : World} {ad : Option Addr} {n cp : Nat} {s : Bool} {a : Option Addr} {l c : Nat} {ps : List (Int × Int)} {k : Int} {ad2 : Option Addr} {n2 cp2 : Nat} {s2 : Bool} {a2 : Option Addr} {l2 c2 : Nat} {B : Nat} (hS : Std ps) (hP : Pn w ad n ps B) (hz : Zn w s a l c k) (hl : l ≤ B) (hP2 : Pn w ad2 n2 ps B) (hz2 : Zn w s2 a2 l2 c2 k) (hl2 : l2 ≤ B) (hB : B + n ≤ 268435456) (hB2 : B + n2 ≤ 268435456) :
  Calls Try.prog 16 #[.agg #[.slice ad n cp, .bool s, .slice a l c], .agg #[.slice ad2 n2 cp2, .bool s2, .slice a2 l2 c2]] w fun e w' => e = .returned (.bool true) ∧ Below w.heap.size w w' := by
 go_enter Try.func16, Try.ntmps16
 go_wp2_with fail
 have x := (tb_new w ad n cp s a l c).below (below_alloc _ (.cells #[.slice ad2 n2 cp2, .bool s2, .slice a2 l2 c2] 27))
 have y := tb_new (w.alloc (.cells #[.slice ad n cp, .bool s, .slice a l c] 27)) ad2 n2 cp2 s2 a2 l2 c2
 have b0 : Below w.heap.size w ((w.alloc (.cells #[.slice ad n cp, .bool s, .slice a l c] 27)).alloc (.cells #[.slice ad2 n2 cp2, .bool s2, .slice a2 l2 c2] 27)) := below_alloc' (below_alloc _ _) _
 rw [show (w.alloc (.cells #[.slice ad n cp, .bool s, .slice a l c] 27)).heap.size = w.heap.size + 1 from by simp] at y
 generalize (w.alloc (.cells #[.slice ad n cp, .bool s, .slice a l c] 27)).alloc (.cells #[.slice ad2 n2 cp2, .bool s2, .slice a2 l2 c2] 27) = wb at *
 replace hP := hP.below b0
 replace hz := hz.below b0
 replace hP2 := hP2.below b0
 replace hz2 := hz2.below b0
 generalize hp : w.heap.size = p at *
 replace b0 : Hid (Below w.heap.size w wb) := hp ▸ b0
 replace hp := hide hp
 generalize p + 1 = q at *
 obtain ⟨X, hX, hVX⟩ := pn_px hP hS
 obtain ⟨Y, hY, hVY⟩ := pn_px hP2 hS
 obtain ⟨xs, hr, hst, -⟩ := hz.stands
 obtain ⟨ys, hr2, hst2, -⟩ := hz2.stands
 replace hVX := hide hVX
 replace hVY := hide hVY
 refine (rvalid5_n hX hr hl (by omega) (by omega)).mono ?_
 rintro e w1 ⟨b1, rfl, hb1, k1⟩
 obtain rfl : b1 = true := hb1.2 ⟨hVX.out, hst⟩
 clear hb1
 replace k1 := hide k1
 have y0 := (y.below k1.out).c0
 have y1 := (y.below k1.out).c1
 have y2 := (y.below k1.out).c2
 go_wp2_with fail
 refine (rvalid5_n (hY.below k1.out) (hr2.below k1.out) hl2 (by omega) (by omega)).mono ?_
 rintro e w2 ⟨b2, rfl, hb2, k2⟩
 obtain rfl : b2 = true := hb2.2 ⟨hVY.out, hst2⟩
 clear hb2 y0 y1 y2
 replace k2 := hide (grow_step k2 k1.out)
 clear k1
 have x0 := (x.below k2.out).c0
 have x1 := (x.below k2.out).c1
 have x2 := (x.below k2.out).c2
 have y0 := (y.below k2.out).c0
 have y1 := (y.below k2.out).c1
 have y2 := (y.below k2.out).c2
 go_wp2_with fail
 refine (rorder5_n (hP.pr.below k2.out) (hz.zm.below k2.out) hl (hP2.pr.below k2.out) (hz2.zm.below k2.out) hl2 hB hB2).mono ?_
 rintro e w3 ⟨rfl, k3⟩
 rw [ordT_self]
 have kf : Hid (Below w.heap.size w w3) := b0.out.trans ((grow_step k3 k2.out).mono b0.out.size)
 clear k3
 go_wp2
 go_ret
 exact ⟨rfl, kf.out⟩

end Go.Proofs.Ytagjfhipjbpoiaa

namespace Go.Proofs.Ytagjfhipjbpoiaa
open Go.RowKit Go.Sort Go.Shelf
open Tm At

end Go.Proofs.Ytagjfhipjbpoiaa

namespace Go.Proofs.Ytagjfhipjbpoiaa
open Go.RowKit Go.Sort Go.Shelf
open Tm At

end Go.Proofs.Ytagjfhipjbpoiaa

namespace Go.Proofs.Ytagjfhipjbpoiaa
open Go.RowKit Go.Sort Go.Shelf
open Tm At

end Go.Proofs.Ytagjfhipjbpoiaa

namespace Go.Proofs.Ytagjfhipjbpoiaa.At
open Tm

/-- each number of a list of parts turned -/
def mapP (F : Int → Int) (qs : List (Int × Int)) : List (Int × Int) := qs.map fun q => (q.1, F q.2)
end Go.Proofs.Ytagjfhipjbpoiaa.At

namespace Go.Proofs.Ytagjfhipjbpoiaa
open Go.RowKit Go.Sort Go.Shelf
open Tm At

theorem mapP_snoc (F : Int → Int) (qs : List (Int × Int)) (q : Int × Int) : mapP F (qs ++ [q]) = mapP F qs ++ [(q.1, F q.2)] := by simp [mapP]
theorem anyH_append {P : Program} {w : World} {o : Oper} {a : Act} {K : Act → World → Prop} {Q : Exit → Act → World → Prop} {ys : Nat → Option Bool} (hgd : o.guard = none) (s x : Operand) (t : TypeId)
  (ho : o.op = .call { callee := .builtin .append, args := #[s, x], argTypes := #[t, t] }) (v1 v2 : Value) (hs : a.eval s = v1) (hx : a.eval x = v2) (F : Value → World → Prop)
  (hr : ∃ v' w', (Builtin.append_ #[t, t] o.type #[v1, v2]).run P w = .ok v' w' ∧ F v' w')
  (h : ∀ v' w', F v' w' → K (a.put o.dst v') w') : if Region.wanted o ys = true then Oper.wp P o a w K Q else K (a.put o.dst undef) w := by
 obtain ⟨v', w', hr, hF⟩ := hr
 rw [if_pos (by simp [Region.wanted, hgd])]
 unfold Oper.wp execOp
 simp only [ho, resolve, invoke, builtin, Sem.run_bind, Sem.run_pure, Result.andThen_ok, List.map_toArray, List.map_cons, List.map_nil, hs, hx, hr]
 exact h v' w' hF
end Go.Proofs.Ytagjfhipjbpoiaa

namespace Go.Proofs.Ytagjfhipjbpoiaa
open Go.RowKit Go.Sort Go.Shelf
open Tm At

theorem sk5 {wb w' : World} {p q bp f t : Nat} {ad : Option Addr} {n cp : Nat} {s : Bool} {a : Option Addr} {l c : Nat} {u0 u1 u2 : Value} {s2 : Bool} {a2 : Option Addr} {l2 c2 : Nat} (x : TB wb q ad n cp s a l c) (z : ZB wb p s2 a2 l2 c2) (g0 : wb.cell? ⟨bp, f + t * 3, none⟩ = some u0) (g1 : wb.cell? ⟨bp, f + t * 3 + 1, none⟩ = some u1) (g2 : wb.cell? ⟨bp, f + t * 3 + 2, none⟩ = some u2) (hb : bp < wb.heap.size) (k : Below wb.heap.size wb w') :
  w'.cell? ⟨q, 0, none⟩ = some (.slice ad n cp) ∧ w'.cell? ⟨bp, f + t * 3, none⟩ = some u0 ∧ w'.cell? ⟨bp, f + t * 3 + 1, none⟩ = some u1 ∧ w'.cell? ⟨bp, f + t * 3 + 2, none⟩ = some u2 ∧ w'.cell? ⟨p, 0, none⟩ = some (.bool s2) ∧ w'.cell? ⟨p, 1, none⟩ = some (.slice a2 l2 c2) ∧ Below wb.heap.size wb w' :=
 ⟨(x.below k).c0, (k.cell (p := ⟨bp, f + t * 3, none⟩) hb).trans g0, (k.cell (p := ⟨bp, f + t * 3 + 1, none⟩) hb).trans g1, (k.cell (p := ⟨bp, f + t * 3 + 2, none⟩) hb).trans g2, (z.below k).c0, (z.below k).c1, k⟩

set_option maxRecDepth 100000 in
set_option maxHeartbeats 6400000 in
theorem rscale5_g {w : World} {s0 : Bool} {a0 : Option Addr} {l0 c0 : Nat} {k0 : Int} {ad : Option Addr} {n cp : Nat} {s : Bool} {a : Option Addr} {l c : Nat} {ps : List (Int × Int)} {k : Int} {B : Nat} (hk : Zm w s0 a0 l0 c0 k0) (hk0 : l0 ≤ B) (hP : Pr w ad n ps B) (hz : Zm w s a l c k) (hl : l ≤ B) (hn : n ≤ 4194304) (hB : B ≤ 67108864) :
  Calls Try.prog 29 #[.agg #[.bool s0, .slice a0 l0 c0], .agg #[.slice ad n cp, .bool s, .slice a l c]] w fun e w' => ∃ ad' n' cp' s' a' l' c', e = .returned (.agg #[.slice ad' n' cp', .bool s', .slice a' l' c']) ∧ Pn w' ad' n' (nz (lays [] (mapP (fun x => k0 * x) ps))) (2 * B + n + 2) ∧ Zn w' s' a' l' c' (k0 * k) ∧ l' ≤ 2 * B + n + 2 ∧ n' ≤ n ∧ (∀ b off, ad' = some ⟨b, off, none⟩ → w.heap.size ≤ b) ∧ Below w.heap.size w w' := by
 go_enter Try.func29, Try.ntmps29
 go_wp2_with fail
 have z := ((zb_new w s0 a0 l0 c0).below (below_alloc _ (.cells #[.slice ad n cp, .bool s, .slice a l c] 27))).below (below_alloc _ (.cells #[.slice none 0 0, .bool false, .slice none 0 0] 27))
 have x := (tb_new (w.alloc (.cells #[.bool s0, .slice a0 l0 c0] 25)) ad n cp s a l c).below (below_alloc _ (.cells #[.slice none 0 0, .bool false, .slice none 0 0] 27))
 have y := tb_new ((w.alloc (.cells #[.bool s0, .slice a0 l0 c0] 25)).alloc (.cells #[.slice ad n cp, .bool s, .slice a l c] 27)) none 0 0 false none 0 0
 have b0 : Below w.heap.size w (((w.alloc (.cells #[.bool s0, .slice a0 l0 c0] 25)).alloc (.cells #[.slice ad n cp, .bool s, .slice a l c] 27)).alloc (.cells #[.slice none 0 0, .bool false, .slice none 0 0] 27)) := below_alloc' (below_alloc' (below_alloc _ _) _) _
 rw [show (w.alloc (.cells #[.bool s0, .slice a0 l0 c0] 25)).heap.size = w.heap.size + 1 from by simp] at x
 rw [show ((w.alloc (.cells #[.bool s0, .slice a0 l0 c0] 25)).alloc (.cells #[.slice ad n cp, .bool s, .slice a l c] 27)).heap.size = w.heap.size + 1 + 1 from by simp] at y
 generalize ((w.alloc (.cells #[.bool s0, .slice a0 l0 c0] 25)).alloc (.cells #[.slice ad n cp, .bool s, .slice a l c] 27)).alloc (.cells #[.slice none 0 0, .bool false, .slice none 0 0] 27) = wb at *
 have hwr : w.heap.size ≤ w.heap.size + 1 + 1 := by omega
 replace hP := hP.below b0
 replace hz := hz.below b0
 replace hk := hk.below b0
 generalize w.heap.size + 1 + 1 = r at *
 generalize w.heap.size + 1 = q at *
 have hwr' : Hid (w.heap.size ≤ r) := hwr
 clear hwr
 generalize hp : w.heap.size = p at *
 replace b0 : Hid (Below w.heap.size w wb) := hp ▸ b0
 replace hwr' : Hid (w.heap.size ≤ r) := (show w.heap.size ≤ r by rw [hp]; exact hwr'.out)
 clear hp
 go_loopw [5, 6] (fun v i wr => ∃ (t : Nat) (ad' : Option Addr) (cap' : Nat) (L' : List Raw), t ≤ n ∧ i = .int .i64 t ∧ v = .slice ad' t cap' ∧ Hid (RS wb.heap.size wr (.slice ad' t cap') t cap' L') ∧ Hid (Rok wr (2 * B + 1) L') ∧ Hid ((L'.take t).map Raw.p = mapP (fun x => k0 * x) (ps.take t)) ∧ Hid (Below wb.heap.size wb wr)) (fun _ i _ => n - (intOf i).toNat)
 case atStart => exact ⟨0, none, 0, [], Nat.zero_le _, rfl, rfl, .inl ⟨rfl, rfl, rfl, rfl⟩, (fun x hx => absurd hx (by simp)), (show _ = _ from rfl), Below.refl _ _⟩
 case round =>
  obtain ⟨t, ad', cap', L', ht, rfl, rfl, hR, hok, hlays, hkr⟩ := hrel
  have kr := hkr.out
  have xr := x.below kr
  have u0 := xr.c0
  by_cases htn : t < n
  ·obtain ⟨hpn, hPr⟩ := hP
   rcases hPr with hPr | ⟨bp, f, rfl, hPr⟩
   ·omega
   have hbpl := hPr.1
   obtain ⟨s3, a3, l3, c3, g0, g1, g2, hz3, hl3, hv⟩ := hPr.2 t (by omega)
   replace hz3 := hz3.below kr
   have hk3 := hk.below kr
   have hps : Hid (ps.take (t + 1) = ps.take t ++ [ps[t]]) := List.take_succ_eq_append_getElem (l := ps) (i := t) (by omega)
   generalize ps[t] = pp at *
   obtain ⟨pv, pz⟩ := pp
   dsimp only at *
   have hRq := hR.out
   have hokq := hok.out
   have HH := hide (And.intro kr (And.intro hz3 (And.intro hk3 (And.intro hRq hokq))))
   clear kr hz3 hk3 hRq hokq hPr
   go_wp2_with fail
   obtain ⟨kr, hz3, hk3, hRq, hokq⟩ := HH.out
   clear HH
   refine wp_region_held_drew (S := (fun w' => w'.cell? ⟨q, 0, none⟩ = some (.slice (some ⟨bp, f, none⟩) n cp) ∧ w'.cell? ⟨bp, f + t * 3, none⟩ = some (.int .i64 pv) ∧ w'.cell? ⟨bp, f + t * 3 + 1, none⟩ = some (.bool s3) ∧ w'.cell? ⟨bp, f + t * 3 + 2, none⟩ = some (.slice a3 l3 c3) ∧ w'.cell? ⟨p, 0, none⟩ = some (.bool s0) ∧ w'.cell? ⟨p, 1, none⟩ = some (.slice a0 l0 c0) ∧ Below wb.heap.size wb w')) (by kernel_rfl) (sk5 x z g0 g1 g2 hbpl (grow_drew kr)) (fun hHeld => ?_)
   show wpAnyH _ _ _ _ _ 19 _ _ _
   have kd := grow_drew (Below.refl wr.heap.size wr)
   have kW := grow_drew kr
   have hRq := hRq.below kd
   have hokq := hokq.below kd
   have hz3 := hz3.below kd
   have hk3 := hk3.below kd
   clear kd
   generalize wr.drew = wQ at *
   refine wpAnyH_take (i := 0) (oi := ⟨some 14, _, _, _, _, _⟩) (v := ?_) rfl (by kernel_rfl) (by kernel_rfl) (by kernel_rfl) (fun _ _ _ h => h) (Or.inl ⟨by rfl, ?_⟩) (by assumption) ?_
   rotate_left
   ·intro wq hSw; (try dsimp only at hSw); go_simp; (try with_reducible rfl)
   (try simp only [Act.put, List.setIfInBounds_toArray, List.set_cons_zero, List.set_cons_succ])
   refine wpAnyH_take (i := 1) (oi := ⟨some 15, _, _, _, _, _⟩) (v := ?_) rfl (by kernel_rfl) (by kernel_rfl) (by kernel_rfl) (fun _ _ _ h => h) (Or.inl ⟨by rfl, ?_⟩) (by assumption) ?_
   rotate_left
   ·intro wq hSw; (try dsimp only at hSw); go_simp; (try with_reducible rfl)
   (try simp only [Act.put, List.setIfInBounds_toArray, List.set_cons_zero, List.set_cons_succ])
   refine wpAnyH_take (i := 2) (oi := ⟨some 16, _, _, _, _, _⟩) (v := ?_) rfl (by kernel_rfl) (by kernel_rfl) (by kernel_rfl) (fun _ _ _ h => h) (Or.inl ⟨by rfl, ?_⟩) (by assumption) ?_
   rotate_left
   ·intro wq hSw; (try dsimp only at hSw); go_simp; (try with_reducible rfl)
   (try simp only [Act.put, List.setIfInBounds_toArray, List.set_cons_zero, List.set_cons_succ])
   refine wpAnyH_take (i := 3) (oi := ⟨some 17, _, _, _, _, _⟩) (v := ?_) rfl (by kernel_rfl) (by kernel_rfl) (by kernel_rfl) (fun _ _ _ h => h) (Or.inl ⟨by rfl, ?_⟩) (by assumption) ?_
   rotate_left
   ·intro wq hSw; (try dsimp only at hSw); go_simp; (try with_reducible rfl)
   (try simp only [Act.put, List.setIfInBounds_toArray, List.set_cons_zero, List.set_cons_succ])
   refine wpAnyH_take (i := 4) (oi := ⟨some 18, _, _, _, _, _⟩) (v := ?_) rfl (by kernel_rfl) (by kernel_rfl) (by kernel_rfl) (fun _ _ _ h => h) (Or.inl ⟨by rfl, ?_⟩) (by assumption) ?_
   rotate_left
   ·intro wq hSw; (try dsimp only at hSw); go_simp; (try with_reducible rfl)
   (try simp only [Act.put, List.setIfInBounds_toArray, List.set_cons_zero, List.set_cons_succ])
   refine wpAnyH_take (i := 5) (oi := ⟨some 19, _, _, _, _, _⟩) (v := ?_) rfl (by kernel_rfl) (by kernel_rfl) (by kernel_rfl) (fun _ _ _ h => h) (Or.inl ⟨by rfl, ?_⟩) (by assumption) ?_
   rotate_left
   ·intro wq hSw; (try dsimp only at hSw); go_simp; (try with_reducible rfl)
   (try simp only [Act.put, List.setIfInBounds_toArray, List.set_cons_zero, List.set_cons_succ])
   refine wpAnyH_take (i := 6) (oi := ⟨some 20, _, _, _, _, _⟩) (v := ?_) rfl (by kernel_rfl) (by kernel_rfl) (by kernel_rfl) (fun _ _ _ h => h) (Or.inl ⟨by rfl, ?_⟩) (by assumption) ?_
   rotate_left
   ·intro wq hSw; (try dsimp only at hSw); go_simp; (try with_reducible rfl)
   (try simp only [Act.put, List.setIfInBounds_toArray, List.set_cons_zero, List.set_cons_succ])
   refine wpAnyH_take (i := 7) (oi := ⟨some 21, _, _, _, _, _⟩) (v := ?_) rfl (by kernel_rfl) (by kernel_rfl) (by kernel_rfl) (fun _ _ _ h => h) (Or.inl ⟨by rfl, ?_⟩) (by assumption) ?_
   rotate_left
   ·intro wq hSw; (try dsimp only at hSw); go_simp; (try with_reducible rfl)
   (try simp only [Act.put, List.setIfInBounds_toArray, List.set_cons_zero, List.set_cons_succ])
   refine wpAnyH_take (i := 8) (oi := ⟨some 22, _, _, _, _, _⟩) (v := ?_) rfl (by kernel_rfl) (by kernel_rfl) (by kernel_rfl) (fun _ _ _ h => h) (Or.inl ⟨by rfl, ?_⟩) (by assumption) ?_
   rotate_left
   ·intro wq hSw; (try dsimp only at hSw); go_simp; (try with_reducible rfl)
   (try simp only [Act.put, List.setIfInBounds_toArray, List.set_cons_zero, List.set_cons_succ])
   refine wpAnyH_take (i := 9) (oi := ⟨some 23, _, _, _, _, _⟩) (v := ?_) rfl (by kernel_rfl) (by kernel_rfl) (by kernel_rfl) (fun _ _ _ h => h) (Or.inl ⟨by rfl, ?_⟩) (by assumption) ?_
   rotate_left
   ·intro wq hSw; (try dsimp only at hSw); go_simp; (try with_reducible rfl)
   (try simp only [Act.put, List.setIfInBounds_toArray, List.set_cons_zero, List.set_cons_succ])
   refine wpAnyH_take (i := 10) (oi := ⟨some 24, _, _, _, _, _⟩) (v := ?_) rfl (by kernel_rfl) (by kernel_rfl) (by kernel_rfl) (fun _ _ _ h => h) (Or.inl ⟨by rfl, ?_⟩) (by assumption) ?_
   rotate_left
   ·intro wq hSw; (try dsimp only at hSw); go_simp; (try with_reducible rfl)
   (try simp only [Act.put, List.setIfInBounds_toArray, List.set_cons_zero, List.set_cons_succ])
   refine wpAnyH_take (i := 11) (oi := ⟨some 25, _, _, _, _, _⟩) (v := ?_) rfl (by kernel_rfl) (by kernel_rfl) (by kernel_rfl) (fun _ _ _ h => h) (Or.inl ⟨by rfl, ?_⟩) (by assumption) ?_
   rotate_left
   ·intro wq hSw; (try dsimp only at hSw); go_simp; (try with_reducible rfl)
   (try simp only [Act.put, List.setIfInBounds_toArray, List.set_cons_zero, List.set_cons_succ])
   refine wpAnyH_take (i := 12) (oi := ⟨some 26, _, _, _, _, _⟩) (v := ?_) rfl (by kernel_rfl) (by kernel_rfl) (by kernel_rfl) (fun _ _ _ h => h) (Or.inl ⟨by rfl, ?_⟩) (by assumption) ?_
   rotate_left
   ·intro wq hSw; (try dsimp only at hSw); go_simp; (try with_reducible rfl)
   (try simp only [Act.put, List.setIfInBounds_toArray, List.set_cons_zero, List.set_cons_succ])
   refine wpAnyH_take (i := 13) (oi := ⟨some 27, _, _, _, _, _⟩) (v := ?_) rfl (by kernel_rfl) (by kernel_rfl) (by kernel_rfl) (fun _ _ _ h => h) (Or.inl ⟨by rfl, ?_⟩) (by assumption) ?_
   rotate_left
   ·intro wq hSw; (try dsimp only at hSw); go_simp; (try with_reducible rfl)
   (try simp only [Act.put, List.setIfInBounds_toArray, List.set_cons_zero, List.set_cons_succ])
   refine wpAnyH_ready (rs := [14]) (by kernel_rfl) (by simp) ?_
   refine AllReadyH.cons (o := ⟨some 28, _, _, _, _, _⟩) rfl (fun K hK => ?_) AllReadyH.nil
   go_simp
   go_at_call 62; refine Calls.mono (rmul2_n hk3 hz3 (by omega) (by omega)) ?_; rintro e wA ⟨sN, aN, lN, cN, rfl, hN, kA, hlN⟩
   have hRq := hRq.below kA
   have hokq := hokq.below kA
   have kW := grow_step kA kW
   (try go_wp2_with fail)
   refine hK.out _ _ ?_ ?_
   ·(try dsimp only); exact sk5 x z g0 g1 g2 hbpl kW
   clear hK K hHeld; intro hHeld
   (try simp only [Act.put, List.setIfInBounds_toArray, List.set_cons_zero, List.set_cons_succ])
   refine wpAnyH_ready (rs := [15]) (by kernel_rfl) (by simp) ?_
   refine AllReadyH.cons (o := ⟨some 29, _, _, _, _, _⟩) rfl (fun K hK => ?_) AllReadyH.nil
   go_simp
   refine hK.out _ _ ?_ ?_
   ·(try dsimp only); exact sk5 x z g0 g1 g2 hbpl kW
   clear hK K hHeld; intro hHeld
   (try simp only [Act.put, List.setIfInBounds_toArray, List.set_cons_zero, List.set_cons_succ])
   refine wpAnyH_ready (rs := [16]) (by kernel_rfl) (by simp) ?_
   refine AllReadyH.cons (o := ⟨some 30, _, _, _, _, _⟩) rfl (fun K hK => ?_) AllReadyH.nil
   have kL := below_alloc wA (.cells #[.int .i64 pv, .bool sN, .slice aN lN cN] 62)
   have hRq := hRq.below kL
   have hokq := hokq.below kL
   have hN := hN.below kL
   have hv3 := v3_new wA pv sN aN lN cN
   have kW := grow_step kL kW
   go_simp
   refine hK.out _ _ ?_ ?_
   ·(try dsimp only); exact sk5 x z g0 g1 g2 hbpl kW
   clear hK K hHeld; intro hHeld
   (try simp only [Act.put, List.setIfInBounds_toArray, List.set_cons_zero, List.set_cons_succ])
   generalize wA.alloc (.cells #[.int .i64 pv, .bool sN, .slice aN lN cN] 62) = wL at *
   refine wpAnyH_ready (rs := [17]) (by kernel_rfl) (by simp) ?_
   refine AllReadyH.cons (o := ⟨some 31, _, _, _, _, _⟩) rfl (fun K hK => ?_) AllReadyH.nil
   refine anyH_append rfl _ _ 22 rfl _ _ rfl rfl _ (run_append_rs (w0 := wb) hRq kW ⟨pv, sN, aN, lN, cN, k0 * pz⟩ ⟨wA.heap.size, 0, none⟩ hv3 (by omega) _) ?_
   rintro v5 w8 ⟨cap5, L5, hR5, htk, hmem, hb5, hg5, -⟩
   obtain ⟨ad5, rfl⟩ := hR5.row
   have kW := hb5
   refine hK.out _ _ ?_ ?_
   ·(try dsimp only); exact sk5 x z g0 g1 g2 hbpl kW
   clear hK K hHeld; intro hHeld
   (try simp only [Act.put, List.setIfInBounds_toArray, List.set_cons_zero, List.set_cons_succ])
   refine wpAnyH_ready (rs := [18]) (by kernel_rfl) (by simp) ?_
   refine AllReadyH.cons (o := ⟨some 5, _, _, _, _, _⟩) rfl (fun K hK => ?_) AllReadyH.nil
   go_simp
   refine hK.out _ _ ?_ ?_
   ·(try dsimp only); exact sk5 x z g0 g1 g2 hbpl kW
   clear hK K hHeld; intro hHeld
   (try simp only [Act.put, List.setIfInBounds_toArray, List.set_cons_zero, List.set_cons_succ])
   refine wpAnyH_done (by kernel_rfl) ?_ _
   have ok5 : Rok w8 (2 * B + 1) L5 := fun y hy => by
    rcases hmem y hy with h | rfl | rfl
    ·exact ⟨hRq.zn hg5 (hokq y h).1, (hokq y h).2⟩
    ·exact ⟨hRq.zn hg5 hN, by show lN ≤ _; omega, hv⟩
    ·exact zr_ok _ _
   have hlays3 : Hid ((L5.take (t + 1)).map Raw.p = mapP (fun x => k0 * x) (ps.take (t + 1))) := (show _ = _ by rw [htk, List.map_append, hps.out, mapP_snoc, hlays.out]; rfl)
   replace hR5 := hide hR5
   replace ok5 := hide ok5
   replace hb5 := hide hb5
   clear hHeld hmem htk hg5 hRq hokq hN hv3 kW kA kL
   go_wp2_with fail
   exact ⟨⟨t + 1, ad5, cap5, L5, by omega, by go_num, rfl, hR5, ok5, hlays3, hb5⟩, by simp [intOf]; omega⟩
  ·obtain rfl : n = t := by omega
   have hall : (L'.take n).map Raw.p = mapP (fun x => k0 * x) ps := by rw [hlays.out, List.take_of_length_le (by have := hP.1; omega)]
   have hPr := rs_pr hR.out hok.out
   rw [hall] at hPr
   have hzr := hz.below kr
   have hk3 := hk.below kr
   have zr := z.below kr
   have yr := y.below kr
   have hbr : Hid (Below w.heap.size w wr) := grow_step kr b0.out
   have e0 := zr.c0
   have e1 := zr.c1
   have u1 := xr.c1
   have u2 := xr.c2
   clear hlays hall hR hok hkr
   go_wp2_with fail
   refine (rmul2_n hk3 hzr (by omega) (by omega)).mono ?_
   rintro e w2 ⟨sM, aM, lM, cM, rfl, hM, k2, hlM⟩
   replace hPr := hPr.below k2
   replace yr := yr.below k2
   replace hbr := hide (grow_step k2 hbr.out)
   clear k2 e0 e1 u0 u1 u2 hzr hk3 zr xr kr
   go_wp2_with fail
   refine (rnorm5_w (B := 2 * B + 1) hPr hM.zm (by omega) (by omega) (by omega)).mono ?_
   rintro e w3 ⟨adN, nN, cpN, sN, aN, lN, cN, rfl, hTW, hzN, kN, hnN, hPN, hnewN⟩
   have hlN := hTW.2.2
   have y2 := yr.below kN
   have v0 := y2.c0
   have v1 := y2.c1
   have v2 := y2.c2
   have v3 := y2.f 0
   have v4 := y2.f 1
   have v5 := y2.f 2
   have g := tb_set w3 r (.slice adN nN cpN) (.bool sN) (.slice aN lN cN)
   have HH := hide (And.intro (hPN.tb y2 g) (And.intro (hzN.grownU g (tb_noU y2)) (And.intro (below_grown (grow_step kN hbr.out) g hwr'.out) (And.intro (tb_fin y2 adN nN cpN sN aN lN cN) (fun b off e => Nat.le_trans hbr.out.size (hnewN b off e))))))
   clear hTW hzN kN hPN hnewN y2 yr g hPr hbr hM
   go_wp2
   obtain ⟨hPf, hzf, kf, yf, hnf⟩ := HH.out
   refine bodyPost_ret (results_cell_row rfl _ _ r 27 _ (0, 0) _ rfl yf Try.underlying27 rfl (by kernel_rfl)) rfl ?_
   exact ⟨adN, nN, cpN, sN, aN, lN, cN, by simp, hPf.mono (by omega), hzf, by omega, hnN, hnf, kf⟩
end Go.Proofs.Ytagjfhipjbpoiaa
