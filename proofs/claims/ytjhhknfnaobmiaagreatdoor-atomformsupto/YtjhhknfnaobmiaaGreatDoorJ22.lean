/-
  Several texts in one: Y6, Y7.
-/
import Derived.Test.YtjhhknfnaobmiaaGreatDoorJ21
import Derived.Shelf.SlSortCmp.NoneTotal
import Derived.Test.YtjhhknfnaobmiaaGreatDoorZF1
import Derived.Maps.AppendAt
import Derived.Test.YtjhhknfnaobmiaaGreatDoorZ3
namespace Go.Proofs.YtjhhknfnaobmiaaGreatDoor
open Go.RowKit Go.Sort Go.Shelf
open Tm

theorem fzn_grown {B : Nat} {w w' : World} {s : Bool} {ad : Option Addr} {len cap g : Nat} {z : Int} (h : Fresh.Zn B w s ad len cap z) (hg : w.grownBy w' (some g)) (hB : g < B) : Fresh.Zn B w' s ad len cap z := by
  obtain ⟨n, ⟨⟨zs, h1, h2, h3⟩, h4, h5⟩, h6⟩ := h
  rcases h5 with ⟨rfl, rfl⟩ | ⟨b, xs, rfl, hb, hr, hl⟩
  · refine ⟨n, ⟨⟨zs, ?_, h2, h3⟩, Nat.le_trans h4 hg.size, .inl ⟨rfl, rfl⟩⟩, h6⟩
    obtain ⟨g1, g2, g3, g4, g5⟩ := h1
    exact ⟨g1, g2, g3, g4, .inl ⟨rfl, by omega, rfl⟩⟩
  · have hne : b ≠ g := by omega
    have hbl : b < w.heap.size := Fresh.row_lt hr
    have e : w'.heap[b]? = w.heap[b]? := hg.block b hbl (by simpa using hne)
    refine ⟨n, ⟨⟨zs, ?_, h2, h3⟩, Nat.le_trans h4 hg.size, .inr ⟨b, xs, rfl, hb, e.trans hr, hl⟩⟩, h6⟩
    obtain ⟨g1, g2, g3, g4, g5⟩ := h1
    refine ⟨g1, g2, g3, g4, ?_⟩
    rcases g5 with g5 | ⟨a, ha, g5⟩
    · exact .inl g5
    · refine .inr ⟨a, ha, ?_⟩
      rcases g5 with g5 | ⟨b', off, rfl, hlt, hc⟩
      · exact .inl g5
      · cases ha
        exact .inr ⟨b, 0, rfl, Nat.lt_of_lt_of_le hlt hg.size, fun i hi => (World.cell?_of_block (a := ⟨b, 0 + i, none⟩) e).trans (hc i hi)⟩
theorem fzn_below {B : Nat} {w w' : World} {s : Bool} {ad : Option Addr} {len cap : Nat} {z : Int} (h : Fresh.Zn B w s ad len cap z) (hb : Below w.heap.size w w') : Fresh.Zn B w' s ad len cap z := by
  obtain ⟨n, ⟨h1, h2, h3⟩, h4⟩ := h
  exact ⟨n, ⟨h1.below hb, Nat.le_trans h2 hb.size, h3.below hb⟩, h4⟩

theorem fzn_mono {B B' : Nat} {w : World} {s : Bool} {ad : Option Addr} {len cap : Nat} {z : Int} (h : Fresh.Zn B w s ad len cap z) (hB : B' ≤ B) : Fresh.Zn B' w s ad len cap z := by
  obtain ⟨n, ⟨h1, h2, h3⟩, h4⟩ := h
  exact ⟨n, ⟨h1, Nat.le_trans hB h2, h3.mono hB⟩, h4⟩
theorem fzn_zero {B : Nat} {w : World} (h : B ≤ w.heap.size) : Fresh.Zn B w false none 0 0 0 := by
  obtain ⟨n, h1, h2⟩ := zn_zero w
  exact ⟨n, ⟨h1, h, .inl ⟨rfl, rfl⟩⟩, h2⟩
/-- a constant beside a row of parts: it lies behind the row -/
def Kn (w : World) (ad : Option Addr) (s : Bool) (a : Option Addr) (l c : Nat) (k : Int) : Prop := Zn w s a l c k ∧ ∀ g, ad = some ⟨g, 0, none⟩ → Fresh.Zn (g + 1) w s a l c k

/-- the parts of an answer: a row of the call's own, numbers that were there at w0 -/
def Tr (w0 w : World) (ad : Option Addr) (len : Nat) (rs : List Raw) (B : Nat) : Prop :=
  rs.length = len ∧ ((ad = none ∧ len = 0) ∨ ∃ g, ad = some ⟨g, 0, none⟩ ∧ w0.heap.size ≤ g ∧ PQ w0 w g rs B)

/-- what a range over a map of numbers has collected -/
structure Col (w : World) (f : Int → Int) (B : Nat) (left : Lit → Bool) (rs : List Raw) : Prop where
  ok : ∀ x ∈ rs, x.ok w B
  z : ∀ x ∈ rs, x.z = f x.v ∧ x.z ≠ 0 ∧ left (.int .i64 x.v) = false
  nd : (rs.map Raw.v).Nodup
  all : ∀ v, I64 v → left (.int .i64 v) = false → f v ≠ 0 → ∃ x ∈ rs, x.v = v

theorem col_start {w : World} {D : DataW Value} {f : Int → Int} {B : Nat} (h : GA w D f B) : Col w f B (Maps.has D) [] :=
  ⟨fun x hx => (by cases hx), fun x hx => (by cases hx), List.nodup_nil, fun v hv hl hf => by
    rcases h v hv with ⟨_, h2⟩ | ⟨s, a, l, c, h2, _⟩
    · exact absurd h2 hf
    · rw [Maps.has_true_of_atKey h2] at hl; cases hl⟩
theorem sameKey_i (u v : Int) : (Lit.int .i64 u).sameKey (.int .i64 v) = decide (u = v) := by
  by_cases h : u = v
  · subst h; simp [Lit.sameKey]
  · rw [Maps.sameKey_ne (fun e => h (by injection e))]; simp [h]
theorem col_skip {w : World} {f : Int → Int} {B : Nat} {left : Lit → Bool} {rs : List Raw} {v : Int} (h : Col w f B left rs) (hf : f v = 0) : Col w f B (fun z => left z && !z.sameKey (.int .i64 v)) rs :=
  ⟨h.ok, fun x hx => ⟨(h.z x hx).1, (h.z x hx).2.1, by simp [(h.z x hx).2.2]⟩, h.nd, fun u hu hl hfu => by
    by_cases e : u = v
    · subst e; exact absurd hf hfu
    · rw [sameKey_i] at hl
      simp [e] at hl
      exact h.all u hu hl hfu⟩
theorem col_step {w : World} {f : Int → Int} {B : Nat} {left : Lit → Bool} {rs : List Raw} {x : Raw} (h : Col w f B left rs) (hx : x.ok w B) (hz : x.z = f x.v) (h0 : x.z ≠ 0) (hl : left (.int .i64 x.v) = true) : Col w f B (fun z => left z && !z.sameKey (.int .i64 x.v)) (rs ++ [x]) :=
  ⟨fun y hy => (List.mem_append.1 hy).elim (h.ok y) (fun e => by rw [List.mem_singleton.1 e]; exact hx),
   fun y hy => by
    rcases List.mem_append.1 hy with e | e
    · exact ⟨(h.z y e).1, (h.z y e).2.1, by simp [(h.z y e).2.2]⟩
    · rw [List.mem_singleton.1 e]; exact ⟨hz, h0, by rw [sameKey_i]; simp⟩,
   by
    rw [List.map_append, List.nodup_append]
    refine ⟨h.nd, by simp, fun a ha b hb => ?_⟩
    simp at hb
    subst hb
    rintro rfl
    obtain ⟨y, hy, e⟩ := List.mem_map.1 ha
    have := (h.z y hy).2.2
    rw [e, hl] at this
    exact Bool.noConfusion this,
   fun u hu hlu hfu => by
    by_cases e : u = x.v
    · exact ⟨x, by simp, e.symm⟩
    · rw [sameKey_i] at hlu
      simp [e] at hlu
      obtain ⟨y, hy, e⟩ := h.all u hu hlu hfu
      exact ⟨y, by simp [hy], e⟩⟩

theorem infoP : (Tryz.prog.info? 71).map (fun i => (i.zero, i.size, i.bytes)) = some (some (.agg #[.int .i64 0, .bool false, .slice none 0 0]), 3, 40) := by kernel_rfl

theorem invK_i : ∀ key kl, keyOf Tryz.prog 3 key = some kl → ∃ x : Int, key = Value.int .i64 x := fun key kl h => by
  obtain ⟨x, rfl, _⟩ := Maps.keyOf_int_inv Tryz.underlying3 h
  exact ⟨x, rfl⟩
def mkV (q : Bool × Option Addr × Nat × Nat) : Value := .agg #[.bool q.1, .slice q.2.1 q.2.2.1 q.2.2.2]
theorem invV_i : ∀ v y, elemR v = some y → ∃ q, v = mkV q := fun v y h => by
  obtain ⟨s, a, l, c, rfl, _⟩ := elemR_inv h
  exact ⟨(s, a, l, c), rfl⟩

/-- THE STEP of a range over a map of numbers -/
theorem wpList_next_z {w : World} {ops : Array Oper} {rest : List Oper} {o : Oper} {a : Act} {Q : Exit → Act → World → Prop} (hg : o.guard = none) (it : Operand) (hop : o.op = Op.next it false) (b r n : Nat) (D : DataW Value) (left : Lit → Bool) (cnt : Nat)
    (hit : a.eval it = .pointer (some ⟨r, 0, none⟩)) (h : w.ranges Tryz.prog 3 elemR b r n D left cnt)
    (hDone : (∀ kl, left kl = false) → wpList Tryz.prog ops Q rest (a.put o.dst (.tuple #[.bool false])) w)
    (hMore : ∀ (v : Int) (s : Bool) (ad : Option Addr) (l c : Nat) (w' : World) (cnt' : Nat), I64 v → left (.int .i64 v) = true → (∀ zd, D.atKey (.int .i64 v) zd = .held (.agg #[.bool s, .slice ad l c])) → w'.ranges Tryz.prog 3 elemR b r n D (fun z => left z && !z.sameKey (.int .i64 v)) cnt' → cnt' < cnt →
      w.grownBy w' (some r) → (Instr.entry (.pointer (some ⟨r, 0, none⟩))).run Tryz.prog w' = .ok (.tuple #[.int .i64 v, .agg #[.bool s, .slice ad l c]]) w' → wpList Tryz.prog ops Q rest (a.put o.dst (.tuple #[.bool true, .int .i64 v, .agg #[.bool s, .slice ad l c]])) w') :
    wpList Tryz.prog ops Q (o :: rest) a w := by
  refine wpList_next_ranges w hg it hop 3 tk elemR (Value.int .i64) mkV invK_i invV_i b r n D left cnt hit h (fun _ hl => hDone hl) ?_
  rintro v q kl y w' cnt' hkey hlk hv hat hrg hlt hgr hsz hen
  obtain ⟨v', ev, rfl, hwf⟩ := Maps.keyOf_int_inv Tryz.underlying3 hkey
  cases ev
  obtain ⟨s, ad, l, c⟩ := q
  cases hv
  exact hMore v s ad l c w' cnt' (wf_i64 hwf) hlk hat hrg hlt hgr hen

theorem bg {w w' : World} (h : Below w.heap.size w w') : w.grownBy w' none := ⟨h.os, h.tape, h.output, h.size, fun k hk _ => h.block k hk⟩
theorem row_kept {w w' : World} {base : Nat} {e : TypeId} {size : Nat} {v : Value} {n : Nat} {xs : List Value} {r : Nat} (h : w.ownsRow base e size v n xs) (hg : w.grownBy w' (some r)) (hr : r < base) : w'.ownsRow base e size v n xs := by
  refine h.kept hg ?_
  cases ho : v.ownBlock with
  | none => exact .inl rfl
  | some k =>
    refine .inr fun e => ?_
    have := (h.lt k ho).1
    cases e
    omega
theorem row_below {w w' : World} {base : Nat} {e : TypeId} {size : Nat} {v : Value} {n : Nat} {xs : List Value} (h : w.ownsRow base e size v n xs) (hb : Below w.heap.size w w') : w'.ownsRow base e size v n xs :=
  h.kept (bg hb) (by cases v.ownBlock <;> simp)
theorem v3_new (W : World) (v : Int) (s : Bool) (a : Option Addr) (l c : Nat) : ∀ j u, ([.int .i64 v, .bool s, .slice a l c] : List Value)[j]? = some u → (W.alloc (.cells #[.int .i64 v, .bool s, .slice a l c] 71)).cell? ((⟨W.heap.size, 0, none⟩ : Addr).add j) = some u := by
  intro j u hj
  match j, hj with
  | 0, hj => simp at hj; subst hj; simp [Addr.add]
  | 1, hj => simp at hj; subst hj; simp [Addr.add]
  | 2, hj => simp at hj; subst hj; simp [Addr.add]
  | j + 3, hj => simp at hj
theorem v3_one (v : Int) (s : Bool) (a : Option Addr) (l c : Nat) : ∀ u ∈ ([.int .i64 v, .bool s, .slice a l c] : List Value), u.oneCell' = true := by
  intro u h
  simp at h
  rcases h with rfl | rfl | rfl <;> rfl

theorem col_std {w : World} {f : Int → Int} {B : Nat} {left : Lit → Bool} {rs rs' : List Raw} (h : Col w f B left rs) (hl : ∀ kl, left kl = false) (hp : rs'.Perm rs) (hs : rs'.Pairwise (fun x y => x.v < y.v)) : Std (rs'.map Raw.p) ∧ ∀ v, I64 v → csum (rs'.map Raw.p) v = f v := by
  have hStd : Std (rs'.map Raw.p) := by
    refine ⟨?_, fun p hq => ?_⟩
    · rw [List.pairwise_map]; exact hs
    · obtain ⟨x, hx, rfl⟩ := List.mem_map.1 hq
      exact (h.z x (hp.mem_iff.1 hx)).2.1
  refine ⟨hStd, fun v hv => ?_⟩
  by_cases hf : f v = 0
  · rw [hf]
    refine csum_none fun p hq e => ?_
    obtain ⟨x, hx, rfl⟩ := List.mem_map.1 hq
    have := h.z x (hp.mem_iff.1 hx)
    change x.v = v at e
    rw [e, hf] at this
    exact this.2.1 this.1
  · obtain ⟨x, hx, e⟩ := h.all v hv (hl _) hf
    have := std_csum_mem hStd (List.mem_map.2 ⟨x, hp.mem_iff.2 hx, rfl⟩)
    change csum (rs'.map Raw.p) x.v = x.z at this
    rw [← e, this, (h.z x hx).1]
theorem col_end {w : World} {f : Int → Int} {B : Nat} {left : Lit → Bool} (h : Col w f B left []) (hl : ∀ kl, left kl = false) (v : Int) (hv : I64 v) : csum (([] : List Raw).map Raw.p) v = f v := (col_std h hl (List.Perm.refl _) List.Pairwise.nil).2 v hv
theorem gb_set (w : World) (b i : Nat) (v : Value) : w.grownBy (w.setCell ⟨b, i, none⟩ v) (some b) := ⟨rfl, rfl, rfl, by simp [World.setCell], fun k _ hk => Below.heap_setCell _ _ _ _ (fun e => hk (by rw [e]))⟩
theorem tb_set (w : World) (b : Nat) (v0 v1 v2 : Value) : w.grownBy (((w.setCell ⟨b, 0, none⟩ v0).setCell ⟨b, 1, none⟩ v1).setCell ⟨b, 2, none⟩ v2) (some b) := gb_trans (gb_trans (gb_set _ _ _ _) (gb_set _ _ _ _)) (gb_set _ _ _ _)
theorem PQ.below {w0 w w' : World} {g : Nat} {rs : List Raw} {B : Nat} (h : PQ w0 w g rs B) (hb : Below w.heap.size w w') : PQ w0 w' g rs B :=
  ⟨Nat.lt_of_lt_of_le h.1 hb.size, fun i hi => by
    have e : w'.heap[g]? = w.heap[g]? := hb.block g h.1
    obtain ⟨h1, h2, h3⟩ := h.2 i hi
    simp only [World.cell?, World.frozen?, e] at *
    exact ⟨h1, h2, h3⟩⟩
theorem PQ.grown {w0 w w' : World} {g m : Nat} {rs : List Raw} {B : Nat} (h : PQ w0 w g rs B) (hg : w.grownBy w' (some m)) (hm : g ≠ m) : PQ w0 w' g rs B :=
  ⟨Nat.lt_of_lt_of_le h.1 hg.size, fun i hi => by
    have e : w'.heap[g]? = w.heap[g]? := hg.block g h.1 (by simpa using hm)
    obtain ⟨h1, h2, h3⟩ := h.2 i hi
    simp only [World.cell?, World.frozen?, e] at *
    exact ⟨h1, h2, h3⟩⟩

/-- the block of a variable that holds a term -/
def TB (w : World) (b : Nat) (ad : Option Addr) (n cp : Nat) (s : Bool) (a : Option Addr) (l c : Nat) : Prop := w.heap[b]? = some (.cells #[.slice ad n cp, .bool s, .slice a l c] 27 (0, 0))
theorem tb_new (w : World) (ad : Option Addr) (n cp : Nat) (s : Bool) (a : Option Addr) (l c : Nat) : TB (w.alloc (.cells #[.slice ad n cp, .bool s, .slice a l c] 27)) w.heap.size ad n cp s a l c := heap_alloc_new w _
theorem TB.lt {w : World} {b : Nat} {ad : Option Addr} {n cp : Nat} {s : Bool} {a : Option Addr} {l c : Nat} (h : TB w b ad n cp s a l c) : b < w.heap.size := (Array.getElem?_eq_some_iff.1 h).1
theorem TB.c0 {w : World} {b : Nat} {ad : Option Addr} {n cp : Nat} {s : Bool} {a : Option Addr} {l c : Nat} (h : TB w b ad n cp s a l c) : w.cell? ⟨b, 0, none⟩ = some (.slice ad n cp) := cell_of_row w b 0 _ _ (0, 0) h
theorem TB.c1 {w : World} {b : Nat} {ad : Option Addr} {n cp : Nat} {s : Bool} {a : Option Addr} {l c : Nat} (h : TB w b ad n cp s a l c) : w.cell? ⟨b, 1, none⟩ = some (.bool s) := cell_of_row w b 1 _ _ (0, 0) h
theorem TB.c2 {w : World} {b : Nat} {ad : Option Addr} {n cp : Nat} {s : Bool} {a : Option Addr} {l c : Nat} (h : TB w b ad n cp s a l c) : w.cell? ⟨b, 2, none⟩ = some (.slice a l c) := cell_of_row w b 2 _ _ (0, 0) h
theorem TB.f {w : World} {b : Nat} {ad : Option Addr} {n cp : Nat} {s : Bool} {a : Option Addr} {l c : Nat} (h : TB w b ad n cp s a l c) (i : Nat) : w.frozen? ⟨b, i, none⟩ = false := frozen_of_row w b i _ _ h
theorem TB.below {w w' : World} {b : Nat} {ad : Option Addr} {n cp : Nat} {s : Bool} {a : Option Addr} {l c : Nat} (h : TB w b ad n cp s a l c) (hb : Below w.heap.size w w') : TB w' b ad n cp s a l c := (hb.block b h.lt).trans h
theorem TB.grown {w w' : World} {b m : Nat} {ad : Option Addr} {n cp : Nat} {s : Bool} {a : Option Addr} {l c : Nat} (h : TB w b ad n cp s a l c) (hg : w.grownBy w' (some m)) (hm : b ≠ m) : TB w' b ad n cp s a l c := (hg.block b h.lt (by simpa using hm)).trans h
theorem ZB.grown {w w' : World} {b m : Nat} {s : Bool} {a : Option Addr} {l c : Nat} (h : ZB w b s a l c) (hg : w.grownBy w' (some m)) (hm : b ≠ m) : ZB w' b s a l c := (hg.block b h.lt (by simpa using hm)).trans h
theorem tb_noU {w : World} {b : Nat} {ad : Option Addr} {n cp : Nat} {s : Bool} {a : Option Addr} {l c : Nat} (h : TB w b ad n cp s a l c) : NoU w b := by
  intro off x
  rw [cell_of_row w b off _ _ (0, 0) h]
  match off with
  | 0 => simp
  | 1 => simp
  | 2 => simp
  | k + 3 => simp
theorem gb_none {w w' : World} (h : w.grownBy w' none) : Below w.heap.size w w' := ⟨h.os, h.tape, h.output, h.size, fun k hk => h.block k hk (by simp)⟩
theorem tb_fin {w : World} {b : Nat} {ad : Option Addr} {n cp : Nat} {s : Bool} {a : Option Addr} {l c : Nat} (h : TB w b ad n cp s a l c) (ad' : Option Addr) (n' cp' : Nat) (s' : Bool) (a' : Option Addr) (l' c' : Nat) :
    TB (((w.setCell ⟨b, 0, none⟩ (.slice ad' n' cp')).setCell ⟨b, 1, none⟩ (.bool s')).setCell ⟨b, 2, none⟩ (.slice a' l' c')) b ad' n' cp' s' a' l' c' :=
  heap_setCell_same _ b 2 _ _ _ (heap_setCell_same _ b 1 _ _ _ (heap_setCell_same w b 0 _ _ _ h))

set_option maxRecDepth 100000 in
set_option maxHeartbeats 1600000 in
theorem stand_p {w : World} {m n B : Nat} {f : Int → Int} {s : Bool} {a : Option Addr} {l c : Nat} {k : Int} (hG : GM w m n f B) (hz : Zm w s a l c k) (hl : l ≤ 1099511627775) (hB : B ≤ 1099511627776) (hn : n ≤ 1073741824) :
    Calls Tryz.prog 80 #[.map (some m), .agg #[.bool s, .slice a l c]] w fun e w' => ∃ ad len cap s' a' l' c' rs, e = .returned (.agg #[.slice ad len cap, .bool s', .slice a' l' c']) ∧ Tr w w' ad len rs B ∧ len ≤ n ∧ Std (rs.map Raw.p) ∧ (∀ v, I64 v → csum (rs.map Raw.p) v = f v) ∧ Kn w' ad s' a' l' c' k ∧ l' ≤ l + 1 ∧ Below w.heap.size w w' := by
  obtain ⟨D, hown, hGA⟩ := hG
  go_enter Tryz.func80, Tryz.ntmps80
  go_wp2_with (at_range; refine wpList_range_own _ rfl _ 86 rfl 3 24 tk Tryz.underlying86 _ m n D rfl ((hown.alloc _).alloc _) ?_; intro w1 hrg0 hg0 hs0)
  go_frame
  have x := (zb_new w s a l c).below (below_alloc _ (.cells #[.slice none 0 0, .bool false, .slice none 0 0] 27))
  have y := tb_new (w.alloc (.cells #[.bool s, .slice a l c] 24)) none 0 0 false none 0 0
  have b0 : Below w.heap.size w ((w.alloc (.cells #[.bool s, .slice a l c] 24)).alloc (.cells #[.slice none 0 0, .bool false, .slice none 0 0] 27)) := below_alloc' (below_alloc _ _) _
  rw [show ((w.alloc (.cells #[.bool s, .slice a l c] 24)).alloc (.cells #[.slice none 0 0, .bool false, .slice none 0 0] 27)).heap.size = w.heap.size + 2 from by simp] at *
  rw [show (w.alloc (.cells #[.bool s, .slice a l c] 24)).heap.size = w.heap.size + 1 from by simp] at y
  generalize (w.alloc (.cells #[.bool s, .slice a l c] 24)).alloc (.cells #[.slice none 0 0, .bool false, .slice none 0 0] 27) = wb at *
  replace x := x.below (gb_none hg0)
  replace y := y.below (gb_none hg0)
  replace b0 := hide (grow_step (gb_none hg0) b0)
  clear hg0
  have hpq : w.heap.size < w.heap.size + 1 ∧ w.heap.size + 1 < w.heap.size + 2 ∧ w.heap.size + 2 < w1.heap.size := by omega
  have hsz0 := hrg0.owns.size_le
  have hml := hide hown.lt
  clear hs0 hown
  generalize hp : w.heap.size = p at *
  replace b0 : Hid (Below w.heap.size w w1) := hp ▸ b0
  replace hml : Hid (m < w.heap.size) := hp ▸ hml
  replace hp := hide hp
  generalize p + 1 = q at *
  generalize p + 2 = r at *
  replace hpq := hide hpq
  go_loopw [5] (fun parts wr => ∃ rs left cnt, wr.ranges Tryz.prog 3 elemR m r n D left cnt ∧ wr.ownsRow w1.heap.size 71 3 parts rs.length (flat rs) ∧ ZB wr p s a l c ∧ TB wr q none 0 0 false none 0 0 ∧ Hid (Below w.heap.size w wr ∧ w1.heap.size ≤ wr.heap.size ∧ Col w f B left rs) ∧ rs.length + cnt ≤ n) (fun _ wr => wr.rangeLeft m r)
  case atStart => exact ⟨[], _, _, hrg0, World.ownsRow_nil _ _ _ _, x, y, ⟨b0.out, Nat.le_refl _, col_start hGA⟩, by simpa using hsz0⟩
  case round =>
    obtain ⟨rs, left, cnt, hrg, hrow, hx, hy, hH, hcnt⟩ := hrel
    go_wp2_with (at_next; refine wpList_next_z rfl _ rfl m r n D left cnt rfl hrg (fun hl0 => ?_) (fun v s1 a1 l1 c1 w2 cnt2 hv hlk hat hrg2 hlt hgr hen => ?_))
    · have u0 := hx.c0
      have u1 := hx.c1
      have hB2 := hide hH.out.1
      have hC := hide hH.out.2.2
      have hs1 := hide hH.out.2.1
      rcases hrow.2 with ⟨hu, h0⟩ | ⟨g, cap, cur, hu, hbase, hcur, hnc, hcm, hcs, htake⟩
      · subst hu
        obtain rfl : rs = [] := List.eq_nil_of_length_eq_zero h0
        have hsort : Calls Tryz.prog 126 #[.slice none 0 0, .func (.func 114) #[] #[]] wr fun e w' => e = .returned (.tuple #[]) ∧ w' = wr := AnyF.slices_SortFunc_none Tryz.sortP none 0 _ wr
        refine hsort.mono ?_
        rintro e w5 ⟨rfl, rfl⟩
        clear hsort
        go_wp2_with fail
        refine (norm_n (hz.below hB2.out) (by omega)).mono ?_
        rintro e w6 ⟨s', ad', l', c', rfl, hz6, k6, hl6⟩
        have y6 := hy.below k6
        have y0 := y6.c0
        have y1 := y6.c1
        have y2 := y6.c2
        have f0 := y6.f 0
        have f1 := y6.f 1
        have f2 := y6.f 2
        replace hB2 := hide (grow_step k6 hB2.out)
        clear k6
        go_wp2
        refine bodyPost_ret (results_cell_row rfl _ _ q 27 _ (0, 0) _ rfl (tb_fin y6 none 0 0 s' ad' l' c') Tryz.underlying27 rfl (by kernel_rfl)) rfl ?_
        exact ⟨none, 0, 0, s', ad', l', c', [], by simp, ⟨rfl, .inl ⟨rfl, rfl⟩⟩, Nat.zero_le _, std_nil, fun u hu => col_end hC.out hl0 u hu, ⟨hz6.grownU (tb_set _ _ _ _ _) (tb_noU y6), fun g e => by cases e⟩, hl6, below_grown hB2.out (tb_set _ _ _ _ _) (by have := hp.out; have := hpq.out; omega)⟩
      · subst hu
        have hwg : w.heap.size ≤ g := by have := hp.out; have := hpq.out; omega
        refine (sort_n (B := B) (cap := cap) rfl hC.out.ok hB hB2.out hwg hcur htake hC.out.nd (by omega)).mono ?_
        rintro e w5 ⟨rfl, rs', hperm, hpw, hPQ, hg5⟩
        have x5 := hx.grown hg5 (by have := hpq.out; omega)
        have y5 := hy.grown hg5 (by have := hpq.out; omega)
        replace u0 := x5.c0
        replace u1 := x5.c1
        replace hB2 := hide (below_grown hB2.out hg5 hwg)
        have hlen := hide hperm.length_eq
        replace hC := hide (col_std hC.out hl0 hperm hpw)
        clear hg5 hcur htake hcs hrg hx hy hH hperm hpw hrow
        go_wp2_with fail
        refine (Fresh.norm_n (B := w5.heap.size) (Fresh.zm_of (hz.below hB2.out) (Nat.le_refl _)) (by omega)).mono ?_
        rintro e w6 ⟨s', ad', l', c', rfl, hz6, k6, hl6⟩
        replace hz6 := fzn_mono hz6 (B' := g + 1) hPQ.1
        have y6 := y5.below k6
        have y0 := y6.c0
        have y1 := y6.c1
        have y2 := y6.c2
        have f0 := y6.f 0
        have f1 := y6.f 1
        have f2 := y6.f 2
        replace hB2 := hide (grow_step k6 hB2.out)
        replace hPQ := hide (hPQ.below k6)
        clear k6 y5 x5 u0 u1
        go_wp2
        refine bodyPost_ret (results_cell_row rfl _ _ q 27 _ (0, 0) _ rfl (tb_fin y6 (some ⟨g, 0, none⟩) rs.length cap s' ad' l' c') Tryz.underlying27 rfl (by kernel_rfl)) rfl ?_
        exact ⟨some ⟨g, 0, none⟩, rs.length, cap, s', ad', l', c', rs', by simp, ⟨hlen.out, .inr ⟨g, rfl, hwg, hPQ.out.grown (tb_set _ _ _ _ _) (by have := hpq.out; omega)⟩⟩, by omega, hC.out.1, hC.out.2, ⟨hz6.zn.grownU (tb_set _ _ _ _ _) (tb_noU y6), fun g' e => by cases e; exact fzn_grown hz6 (tb_set _ _ _ _ _) (by have := hpq.out; omega)⟩, hl6, below_grown hB2.out (tb_set _ _ _ _ _) (by have := hp.out; have := hpq.out; omega)⟩
    · have hB2 : Hid (Below w.heap.size w w2) := below_grown hH.out.1 hgr (by have := hpq.out; have := hp.out; omega)
      have hZ : Zn w s1 a1 l1 c1 (f v) ∧ l1 ≤ B := by
        rcases hGA v hv with ⟨h1, _⟩ | ⟨s', a', l', c', h1, h2, h3⟩
        · rw [Maps.has_true_of_atKey hat] at h1; cases h1
        · have := (hat (.held (.bool true))).symm.trans (h1 _)
          simp at this
          obtain ⟨rfl, rfl, rfl, rfl⟩ := this
          exact ⟨h2, h3⟩
      obtain ⟨hZ, hl1⟩ := hZ
      have hrow2 := row_kept hrow hgr hpq.out.2.2
      have hx2 := hx.grown hgr (by have := hpq.out; omega)
      have hy2 := hy.grown hgr (by have := hpq.out; omega)
      have kb := below_alloc w2 (.cells #[.bool s1, .slice a1 l1 c1] 24)
      have x3 := zb_new w2 s1 a1 l1 c1
      refine (zsign_n ((hZ.below hB2.out).below kb).zm (by omega)).mono ?_
      rintro e w3 ⟨rfl, k3⟩
      replace x3 := x3.below k3
      replace k3 := grow_step k3 kb
      have hrg3 := hrg2.kept (bg k3) (by simp) (by simp)
      replace hrow2 := row_below hrow2 k3
      replace hx2 := hx2.below k3
      replace hy2 := hy2.below k3
      replace hB2 := hide (grow_step k3 hB2.out)
      have hs3 := hide (Nat.le_trans hH.out.2.1 (Nat.le_trans hgr.size k3.size))
      have hC := hide hH.out.2.2
      clear hH hgr hen kb k3 hx hy hrow hrg2
      generalize w2.heap.size = qb at *
      by_cases hf : f v = 0
      · have e0 : cmpI (f v) 0 = 0 := cmpI_eq hf
        rw [e0]
        go_wp2_with fail
        exact ⟨⟨rs, _, cnt2, hrg3, hrow2, hx2, hy2, ⟨hB2.out, hs3.out, col_skip hC.out hf⟩, by omega⟩, by rw [hrg3.left_eq, hrg.left_eq]; exact hlt⟩
      · have e0 : cmpI (f v) 0 ≠ 0 := by unfold cmpI; split <;> (try split) <;> omega
        have u0 := x3.c0
        have u1 := x3.c1
        obtain ⟨i0, hi, hz0, hz1, hz2⟩ := info_parts infoP
        generalize cmpI (f v) 0 = sgn at *
        go_wp2_with (at_builtin; refine wpList_append_own_at _ rfl _ _ 25 rfl w1.heap.size 71 i0 _ 3 40 Tryz.underlying25 hi hz0 hz1 hz2 rfl (by decide) _ _ _ rfl (hrow2.alloc _) ⟨w3.heap.size, 0, none⟩ 1 1 [.int .i64 v, .bool s1, .slice a1 l1 c1] rfl rfl (v3_new _ _ _ _ _ _) (v3_one _ _ _ _ _) (by unfold maxLen; omega) (by omega) (by have := hs3.out; simp; omega) ?_; intro v' w4 hown' hgrow hnil hat')
        have hob : ∀ b, b < w1.heap.size → some b ≠ u5.ownBlock := fun b hb e => by have := (hrow2.lt b e.symm).1; omega
        have ka := below_alloc w3 (.cells #[.int .i64 v, .bool s1, .slice a1 l1 c1] 71)
        have hmw : m < w1.heap.size := by have := hml.out; have := hp.out; have := hpq.out; omega
        have hrg4 := (hrg3.kept (bg ka) (by simp) (by simp)).kept hgrow (hob m hmw) (hob r hpq.out.2.2)
        refine ⟨⟨rs ++ [⟨v, s1, a1, l1, c1, f v⟩], _, cnt2, hrg4, ?_, ?_, ?_, ⟨?_, ?_, ?_⟩, ?_⟩, by rw [hrg4.left_eq, hrg.left_eq]; exact hlt⟩
        · rw [show flat (rs ++ [⟨v, s1, a1, l1, c1, f v⟩]) = flat rs ++ [.int .i64 v, .bool s1, .slice a1 l1 c1] from by simp [flat, Raw.enc], List.length_append]
          exact hown'
        · exact (hgrow.block p (hx2.below ka).lt (hob p (by have := hpq.out; omega))).trans (hx2.below ka)
        · exact (hgrow.block q (hy2.below ka).lt (hob q (by have := hpq.out; omega))).trans (hy2.below ka)
        · exact (grow_step ka hB2.out).grown hgrow (grow_step ka hB2.out).size (fun k e => by have := (hrow2.lt k e).1; have := hp.out; have := hpq.out; omega)
        · exact Nat.le_trans hs3.out (Nat.le_trans ka.size hgrow.size)
        · exact col_step (x := ⟨v, s1, a1, l1, c1, f v⟩) hC.out ⟨hZ, hl1, hv⟩ rfl hf hlk
        · simp only [List.length_append, List.length_cons, List.length_nil]; omega
end Go.Proofs.YtjhhknfnaobmiaaGreatDoor

namespace Go.Proofs.YtjhhknfnaobmiaaGreatDoor
open Go.RowKit Go.Sort Go.Shelf
open Tm

theorem gather1 {W : World} {b : Nat} {ad : Option Addr} {n cp : Nat} {ps : List (Int × Int)} {B : Nat} {ty : TypeId} {fz : Nat × Nat} (hb : W.heap[b]? = some (.cells #[.slice ad n cp] ty fz)) (h : Pr W ad n ps B) (hB : B + n ≤ 536870912) :
  Calls Tryz.prog 81 #[.slice (some ⟨b, 0, none⟩) 1 1] W fun e w' => ∃ m, e = .returned (.map (some m)) ∧ GM w' m n (csum ps) (B + n) ∧ Below W.heap.size W w' ∧ W.heap.size ≤ m := by
 have hn := h.1
 have := gather_n (w := W) (b := b) (off := 0) (k := 1) (cap := 1) (pss := [ps]) (B := B) rfl (by decide) (Array.getElem?_eq_some_iff.1 hb).1 (fun j hj => by
  obtain rfl : j = 0 := by simp at hj; omega
  exact ⟨ad, n, cp, cell_of_row W b 0 _ _ fz hb, h⟩) (by simp [hn]; omega)
 simpa [hn] using this
theorem gather2 {W : World} {b : Nat} {ad ad2 : Option Addr} {n cp n2 cp2 : Nat} {ps qs : List (Int × Int)} {B : Nat} {ty : TypeId} {fz : Nat × Nat} (hb : W.heap[b]? = some (.cells #[.slice ad n cp, .slice ad2 n2 cp2] ty fz)) (h : Pr W ad n ps B) (h2 : Pr W ad2 n2 qs B) (hB : B + (n + n2) ≤ 536870912) :
  Calls Tryz.prog 81 #[.slice (some ⟨b, 0, none⟩) 2 2] W fun e w' => ∃ m, e = .returned (.map (some m)) ∧ GM w' m (n + n2) (csum (ps ++ qs)) (B + (n + n2)) ∧ Below W.heap.size W w' ∧ W.heap.size ≤ m := by
 have hn := h.1
 have hn2 := h2.1
 have := gather_n (w := W) (b := b) (off := 0) (k := 2) (cap := 2) (pss := [ps, qs]) (B := B) rfl (by decide) (Array.getElem?_eq_some_iff.1 hb).1 (fun j hj => by
  match j, hj with
  | 0, _ => exact ⟨ad, n, cp, cell_of_row W b 0 _ _ fz hb, h⟩
  | 1, _ => exact ⟨ad2, n2, cp2, cell_of_row W b 1 _ _ fz hb, h2⟩
  | j + 2, hj => simp at hj; omega) (by simp [hn, hn2]; omega)
 simpa [hn, hn2] using this

/-- a term as an answer: parts in a row of the call's own, numbers that were there when it was laid -/
def TN (w w' : World) (ad : Option Addr) (n : Nat) (s : Bool) (a : Option Addr) (l c : Nat) (rs : List Raw) (k : Int) (B : Nat) : Prop :=
 ∃ w1, Below w.heap.size w w1 ∧ Below w1.heap.size w1 w' ∧ Tr w1 w' ad n rs B ∧ Kn w' ad s a l c k ∧ l ≤ B
theorem TN.below {w w' : World} {ad : Option Addr} {n : Nat} {s : Bool} {a : Option Addr} {l c : Nat} {rs : List Raw} {k : Int} {B : Nat} (h : TN w w' ad n s a l c rs k B) : Below w.heap.size w w' := by
 obtain ⟨w1, h1, h2, _⟩ := h; exact grow_step h2 h1
theorem TN.zn {w w' : World} {ad : Option Addr} {n : Nat} {s : Bool} {a : Option Addr} {l c : Nat} {rs : List Raw} {k : Int} {B : Nat} (h : TN w w' ad n s a l c rs k B) : Zn w' s a l c k := by
 obtain ⟨w1, _, _, _, h1, _⟩ := h; exact h1.1
theorem TN.le {w w' : World} {ad : Option Addr} {n : Nat} {s : Bool} {a : Option Addr} {l c : Nat} {rs : List Raw} {k : Int} {B : Nat} (h : TN w w' ad n s a l c rs k B) : l ≤ B := by
 obtain ⟨w1, _, _, _, _, h1⟩ := h; exact h1
theorem TN.pr {w w' : World} {ad : Option Addr} {n : Nat} {s : Bool} {a : Option Addr} {l c : Nat} {rs : List Raw} {k : Int} {B : Nat} (h : TN w w' ad n s a l c rs k B) : Pr w' ad n (rs.map Raw.p) B := by
 obtain ⟨w1, h1, h2, ⟨h3, h4⟩, _⟩ := h
 refine ⟨by simpa using h3, ?_⟩
 rcases h4 with ⟨_, h4⟩ | ⟨g, e, hg, hlt, h4⟩
 ·exact .inl h4
 ·refine .inr ⟨g, 0, e, hlt, fun i hi => ?_⟩
  have hi' : i < rs.length := by simpa using hi
  obtain ⟨⟨c0, c1, c2⟩, _, hz, hl, hv⟩ := h4 i hi'
  rw [List.getElem_map, Nat.zero_add]
  exact ⟨_, _, _, _, c0, c1, c2, (hz.below h2).zm, hl, hv⟩
theorem Pr.i64 {w : World} {ad : Option Addr} {n : Nat} {ps : List (Int × Int)} {B : Nat} (h : Pr w ad n ps B) : ∀ p ∈ ps, I64 p.1 := by
 intro p hp
 obtain ⟨h1, h2⟩ := h
 obtain ⟨i, hi, rfl⟩ := List.getElem_of_mem hp
 rcases h2 with h2 | ⟨b, off, _, _, h2⟩
 ·omega
 ·obtain ⟨s, a, l, c, _, _, _, _, _, hv⟩ := h2 i hi
  exact hv
theorem csum_i64 {ps : List (Int × Int)} (h : ∀ p ∈ ps, I64 p.1) {v : Int} (hv : ¬ I64 v) : csum ps v = 0 := csum_none fun p hp e => hv (e ▸ h p hp)
theorem csum_all {ps qs : List (Int × Int)} (h1 : ∀ p ∈ ps, I64 p.1) (h2 : ∀ p ∈ qs, I64 p.1) (h : ∀ v, I64 v → csum ps v = csum qs v) : ∀ v, csum ps v = csum qs v := fun v => by
 by_cases hv : I64 v
 ·exact h v hv
 ·rw [csum_i64 h1 hv, csum_i64 h2 hv]

theorem tk3 {wb w' : World} {p r : Nat} {ad : Option Addr} {n cp : Nat} {s : Bool} {a : Option Addr} {l c : Nat} (x : TB wb p ad n cp s a l c) (hp : p < r) (k : Below r wb w') :
  w'.cell? ⟨p, 0, none⟩ = some (.slice ad n cp) ∧ w'.cell? ⟨p, 1, none⟩ = some (.bool s) ∧ w'.cell? ⟨p, 2, none⟩ = some (.slice a l c) ∧ Below r wb w' := by
 have x' : TB w' p ad n cp s a l c := (k.block p hp).trans x
 exact ⟨x'.c0, x'.c1, x'.c2, k⟩
theorem Tr.mono {w0 w : World} {ad : Option Addr} {n : Nat} {rs : List Raw} {B B' : Nat} (h : Tr w0 w ad n rs B) (hB : B ≤ B') : Tr w0 w ad n rs B' := by
 obtain ⟨h3, h4⟩ := h
 refine ⟨h3, ?_⟩
 rcases h4 with h4 | ⟨g, e, hg, hlt, h4⟩
 ·exact .inl h4
 ·exact .inr ⟨g, e, hg, hlt, fun i hi => ⟨(h4 i hi).1, (h4 i hi).2.1, (h4 i hi).2.2.1, Nat.le_trans (h4 i hi).2.2.2.1 hB, (h4 i hi).2.2.2.2⟩⟩
/-- the world in the middle -/
theorem mid {wb W w2 : World} (_ : Below W.heap.size W w2) (h : Below wb.heap.size wb W) : Below wb.heap.size wb W := h
theorem raw_grown {w0 w0' : World} {m : Nat} {B : Nat} (hg : w0.grownBy w0' (some m)) (hm : NoU w0 m) {x : Raw} (h : x.ok w0 B) : x.ok w0' B := ⟨h.1.grownU hg hm, h.2.1, h.2.2⟩

theorem tset_below {w1 w2 : World} {r : Nat} {ad0 : Option Addr} {n0 cp0 : Nat} {s0 : Bool} {a0 : Option Addr} {l0 c0 : Nat} (k2 : Below w1.heap.size w1 w2) (y1 : TB w1 r ad0 n0 cp0 s0 a0 l0 c0) (ad' : Option Addr) (n' cp' : Nat) (s' : Bool) (a' : Option Addr) (l' c' : Nat) :
  Below (((w1.setCell ⟨r, 0, none⟩ (.slice ad' n' cp')).setCell ⟨r, 1, none⟩ (.bool s')).setCell ⟨r, 2, none⟩ (.slice a' l' c')).heap.size (((w1.setCell ⟨r, 0, none⟩ (.slice ad' n' cp')).setCell ⟨r, 1, none⟩ (.bool s')).setCell ⟨r, 2, none⟩ (.slice a' l' c')) (((w2.setCell ⟨r, 0, none⟩ (.slice ad' n' cp')).setCell ⟨r, 1, none⟩ (.bool s')).setCell ⟨r, 2, none⟩ (.slice a' l' c')) := by
 refine ⟨k2.os, k2.tape, k2.output, by simpa [World.setCell] using k2.size, fun k hk => ?_⟩
 by_cases e : k = r
 ·subst e
  exact (tb_fin (y1.below k2) ad' n' cp' s' a' l' c').trans (tb_fin y1 ad' n' cp' s' a' l' c').symm
 ·have hk1 : k < w1.heap.size := by simpa [World.setCell] using hk
  have hk2 : k < w2.heap.size := Nat.lt_of_lt_of_le hk1 k2.size
  rw [(tb_set w2 r _ _ _).block k hk2 (by simpa using e), (tb_set w1 r _ _ _).block k hk1 (by simpa using e)]
  exact k2.block k hk1
theorem tn_fin2 {w w1 w2 : World} {r : Nat} {ad0 : Option Addr} {n0 cp0 : Nat} {s0 : Bool} {a0 : Option Addr} {l0 c0 : Nat} {ad' : Option Addr} {n' : Nat} {s' : Bool} {a' : Option Addr} {l' c' : Nat} {rs : List Raw} {k : Int} {B : Nat} (b1 : Below w.heap.size w w1) (k2 : Below w1.heap.size w1 w2) (hT : Tr w1 w2 ad' n' rs B)
  (y1 : TB w1 r ad0 n0 cp0 s0 a0 l0 c0) (hr : w.heap.size ≤ r) (hz : Kn w2 ad' s' a' l' c' k) (hl : l' ≤ B) (cp' : Nat) :
  ∃ w1', w1'.heap.size = w1.heap.size ∧ Below w.heap.size w w1' ∧ Below w1'.heap.size w1' (((w2.setCell ⟨r, 0, none⟩ (.slice ad' n' cp')).setCell ⟨r, 1, none⟩ (.bool s')).setCell ⟨r, 2, none⟩ (.slice a' l' c')) ∧ Tr w1' (((w2.setCell ⟨r, 0, none⟩ (.slice ad' n' cp')).setCell ⟨r, 1, none⟩ (.bool s')).setCell ⟨r, 2, none⟩ (.slice a' l' c')) ad' n' rs B ∧ Kn (((w2.setCell ⟨r, 0, none⟩ (.slice ad' n' cp')).setCell ⟨r, 1, none⟩ (.bool s')).setCell ⟨r, 2, none⟩ (.slice a' l' c')) ad' s' a' l' c' k ∧ l' ≤ B := by
 refine ⟨((w1.setCell ⟨r, 0, none⟩ (.slice ad' n' cp')).setCell ⟨r, 1, none⟩ (.bool s')).setCell ⟨r, 2, none⟩ (.slice a' l' c'), by simp [World.setCell], below_grown b1 (tb_set _ _ _ _ _) hr, tset_below k2 y1 _ _ _ _ _ _ _, ?_, ⟨hz.1.grownU (tb_set _ _ _ _ _) (tb_noU (y1.below k2)), fun g e => fzn_grown (hz.2 g e) (tb_set _ _ _ _ _) (by
  rcases hT.2 with ⟨h, _⟩ | ⟨g', e', hg', _⟩
  ·rw [h] at e; cases e
  ·rw [e'] at e; cases e; have := y1.lt; omega)⟩, hl⟩
 obtain ⟨h3, h4⟩ := hT
 refine ⟨h3, ?_⟩
 rcases h4 with h4 | ⟨g, e, hg, h4⟩
 ·exact .inl h4
 ·have h5 := h4.grown (tb_set w2 r (.slice ad' n' cp') (.bool s') (.slice a' l' c')) (by have := y1.lt; omega)
  refine .inr ⟨g, e, by simpa [World.setCell] using hg, h5.1, fun i hi => ⟨(h5.2 i hi).1, (h5.2 i hi).2.1, raw_grown (tb_set _ _ _ _ _) (tb_noU y1) (h5.2 i hi).2.2⟩⟩

theorem tn_fin {w w1 w2 : World} {r : Nat} {ad0 : Option Addr} {n0 cp0 : Nat} {s0 : Bool} {a0 : Option Addr} {l0 c0 : Nat} {ad' : Option Addr} {n' : Nat} {s' : Bool} {a' : Option Addr} {l' c' : Nat} {rs : List Raw} {k : Int} {B : Nat} (b1 : Below w.heap.size w w1) (k2 : Below w1.heap.size w1 w2) (hT : Tr w1 w2 ad' n' rs B)
  (y1 : TB w1 r ad0 n0 cp0 s0 a0 l0 c0) (hr : w.heap.size ≤ r) (hz : Kn w2 ad' s' a' l' c' k) (hl : l' ≤ B) (cp' : Nat) :
  TN w (((w2.setCell ⟨r, 0, none⟩ (.slice ad' n' cp')).setCell ⟨r, 1, none⟩ (.bool s')).setCell ⟨r, 2, none⟩ (.slice a' l' c')) ad' n' s' a' l' c' rs k B := by
 obtain ⟨w1', _, h⟩ := tn_fin2 b1 k2 hT y1 hr hz hl cp'
 exact ⟨w1', h⟩

set_option maxRecDepth 100000 in
set_option maxHeartbeats 3200000 in
theorem tnorm_n {w : World} {ad : Option Addr} {n cp : Nat} {s : Bool} {a : Option Addr} {l c : Nat} {ps : List (Int × Int)} {k : Int} {B : Nat} (hP : Pr w ad n ps B) (hz : Zm w s a l c k) (hl : l ≤ B) (hB : B + n ≤ 536870912) :
  Calls Tryz.prog 34 #[.agg #[.slice ad n cp, .bool s, .slice a l c]] w fun e w' => ∃ ad' n' cp' s' a' l' c' rs, e = .returned (.agg #[.slice ad' n' cp', .bool s', .slice a' l' c']) ∧ TN w w' ad' n' s' a' l' c' rs k (B + n + 1) ∧ n' ≤ n ∧ Std (rs.map Raw.p) ∧ ∀ v, csum (rs.map Raw.p) v = csum ps v := by
 go_enter Tryz.func34, Tryz.ntmps34
 go_wp2_with fail
 have x := (tb_new w ad n cp s a l c).below (below_alloc _ (.cells #[.slice none 0 0, .bool false, .slice none 0 0] 27))
 have y := tb_new (w.alloc (.cells #[.slice ad n cp, .bool s, .slice a l c] 27)) none 0 0 false none 0 0
 have b0 : Below w.heap.size w ((w.alloc (.cells #[.slice ad n cp, .bool s, .slice a l c] 27)).alloc (.cells #[.slice none 0 0, .bool false, .slice none 0 0] 27)) := below_alloc' (below_alloc _ _) _
 rw [show (w.alloc (.cells #[.slice ad n cp, .bool s, .slice a l c] 27)).heap.size = w.heap.size + 1 from by simp] at y
 generalize (w.alloc (.cells #[.slice ad n cp, .bool s, .slice a l c] 27)).alloc (.cells #[.slice none 0 0, .bool false, .slice none 0 0] 27) = wb at *
 have hpr : w.heap.size < w.heap.size + 1 := by omega
 replace hP := hP.below b0
 replace hz := hz.below b0
 generalize hp : w.heap.size = p at *
 replace hp := hide hp
 generalize p + 1 = r at *
 have hrb := Nat.le_of_lt y.lt
 go_region_held3 (fun w' => w'.cell? ⟨p, 0, none⟩ = some (.slice ad n cp) ∧ w'.cell? ⟨p, 1, none⟩ = some (.bool s) ∧ w'.cell? ⟨p, 2, none⟩ = some (.slice a l c) ∧ Below r wb w')
  ((refine tk3 x hpr ?_; first | (refine Below.mono ?_ hrb; focus ((repeat' (first | with_reducible exact Below.refl _ _ | with_reducible assumption | with_reducible refine grow_step (by with_reducible assumption) ?_ | with_reducible refine grow_drew ?_ | with_reducible refine grow_alloc ?_ _ | with_reducible refine grow_drewN ?_ _)); done)) | (refine (((Below.mono ?_ hrb).setCell (Nat.le_refl _) _).setCell (Nat.le_refl _) _).setCell (Nat.le_refl _) _; focus ((repeat' (first | with_reducible exact Below.refl _ _ | with_reducible assumption | with_reducible refine grow_step (by with_reducible assumption) ?_ | with_reducible refine grow_drew ?_ | with_reducible refine grow_alloc ?_ _ | with_reducible refine grow_drewN ?_ _)); done))))
  (first | (go_at_call 81; refine (gather1 (by exact heap_alloc_new wb _) (Pr.below hP (by (repeat' (first | with_reducible exact Below.refl _ _ | with_reducible assumption | with_reducible refine grow_step (by with_reducible assumption) ?_ | with_reducible refine grow_drew ?_ | with_reducible refine grow_alloc ?_ _ | with_reducible refine grow_drewN ?_ _)))) hB).mono ?_; rintro e w1 ⟨m, rfl, hG, k1, hm⟩) | (go_at_call 80; refine (stand_p hG (Zm.below hz (by (repeat' (first | with_reducible exact Below.refl _ _ | with_reducible assumption | with_reducible refine grow_step (by with_reducible assumption) ?_ | with_reducible refine grow_drew ?_ | with_reducible refine grow_alloc ?_ _ | with_reducible refine grow_drewN ?_ _)))) (by omega) (by omega) (by omega)).mono ?_; rintro e w2 ⟨ad', n', cp', s', a', l', c', rs, rfl, hT, hn', hStd, hcs, hz2, hl2, k2⟩; have kW := mid k2 (show Below wb.heap.size wb _ by (repeat' (first | with_reducible exact Below.refl _ _ | with_reducible assumption | with_reducible refine grow_step (by with_reducible assumption) ?_ | with_reducible refine grow_drew ?_ | with_reducible refine grow_alloc ?_ _ | with_reducible refine grow_drewN ?_ _))); have y1' := TB.below y kW; have y' := y1'.below k2; have y0 := y'.c0; have y1 := y'.c1; have y2 := y'.c2; have y3 := y'.f 0; have y4 := y'.f 1; have y5 := y'.f 2))
 have hi1 := hP.i64
 clear hP hG
 go_wp2
 refine bodyPost_ret (results_cell_row rfl _ _ r 27 _ (0, 0) _ rfl (tb_fin y' ad' n' cp' s' a' l' c') Tryz.underlying27 rfl (by kernel_rfl)) rfl ?_
 have hTN : TN w _ ad' n' s' a' l' c' rs k (B + n + 1) := tn_fin (hp.out.symm ▸ b0.trans (kW.mono (Nat.le_of_lt (Nat.lt_trans hpr y.lt)))) k2 (hT.mono (by omega)) y1' (by have := hp.out; omega) hz2 (by omega) cp'
 exact ⟨ad', n', cp', s', a', l', c', rs, by simp, hTN, hn', hStd, csum_all hTN.pr.i64 hi1 hcs⟩
end Go.Proofs.YtjhhknfnaobmiaaGreatDoor
