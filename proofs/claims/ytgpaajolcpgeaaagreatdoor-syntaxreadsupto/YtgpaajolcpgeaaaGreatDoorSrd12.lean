/-
 Several texts in one: AZ, X9, XA, XB, XC, XN, P1, XP, XO.
-/
import Derived.Test.YtgpaajolcpgeaaaGreatDoorSrd11
import Derived.RangeFuncBox
import Derived.Maps.AppendAt
import Derived.Test.YtgpaajolcpgeaaaGreatDoorSrd07
namespace Go.Proofs.YtgpaajolcpgeaaaGreatDoor
open Go.RowKit Go.Shelf

/-- the spare room of a list holds noughts -/
def SpZ (w : World) (zc : Array Value) (v : Value) : Prop := ∀ g n cap, v = .slice (some ⟨g, 0, none⟩) n cap → ∀ j, n * zc.size ≤ j → j < cap * zc.size → w.cell? ⟨g, j, none⟩ = some zc[j % zc.size]!
theorem spz_nil (w : World) (zc : Array Value) : SpZ w zc (.slice none 0 0) := fun g n cap e => by cases e
theorem SpZ.below {w w' : World} {zc : Array Value} {v : Value} (h : SpZ w zc v) (hb : Below w.heap.size w w') : SpZ w' zc v := fun g n cap e j h1 h2 => by
 have hc := h g n cap e j h1 h2
 exact (hb.cell (p := ⟨g, j, none⟩) (World.block_lt_of_cell? w ⟨g, j, none⟩ hc)).trans hc
theorem SpZ.same {w w' : World} {zc : Array Value} {v : Value} (h : SpZ w zc v) (hb : ∀ g, v.ownBlock = some g → w'.heap[g]? = w.heap[g]?) : SpZ w' zc v := fun g n cap e j h1 h2 => by
 have hc := h g n cap e j h1 h2
 subst e
 exact (World.cell?_of_block (w := w) (a := ⟨g, j, none⟩) (hb g rfl)).trans hc

theorem zero_get (z : Array Value) (k j : Nat) (h : j < k * z.size) : (Builtin.zeroCells z k)[j]? = some z[j % z.size]! := by
 simp [Builtin.zeroCells, h]
theorem mod_shift {a n j : Nat} (h : n * a ≤ j) : (j - n * a) % a = j % a := by
 have e : j = (j - n * a) + n * a := by omega
 conv => rhs; rw [e]
 rw [Nat.add_mul_mod_self_right]

theorem append_spz {P : Program} {w : World} {base : Nat} {t ty e : TypeId} {i : TypeInfo} {z : Value} {size bytes : Nat} (ht : P.underlying t = some (.slice e)) (hi : P.info? e = some i) (hz : i.zero = some z)
  (hsize : i.size = size) (hby : i.bytes = bytes) (hzs : z.cells.size = size)
  {v : Value} {n : Nat} {xs : List Value} (hown : w.ownsRow base e size v n xs) (hsp : SpZ w z.cells v)
  {a : Addr} {c : Nat} {news : List Value} (hl : news.length = size) (hnews : ∀ j u, news[j]? = some u → w.cell? (a.add j) = some u) (h1 : ∀ u ∈ news, u.oneCell' = true)
  (h63 : n + 1 ≤ maxLen) (hbytes : (n + 1) * bytes ≤ 140737488355328) {v' : Value} {w' : World} (hr : (Builtin.append_ #[t, t] ty #[v, .slice (some a) 1 c]).run P w = .ok v' w') : SpZ w' z.cells v' := by
 subst hsize
 subst hby
 have hmx : n + 1 ≤ 9223372036854775807 := by simp only [maxLen] at h63; omega
 have hl' : news.length = 1 * i.size := by omega
 have grown : ∀ (old : Nat), SpZ (w.drew.alloc (.cells (xs.toArray ++ news.toArray ++ Builtin.zeroCells z.cells (grownCap w (n + 1) old e - (n + 1))) e)) z.cells (.slice (some ⟨w.heap.size, 0, none⟩) (n + 1) (grownCap w (n + 1) old e)) := by
  intro old g n' cap' he j hj1 hj2
  have hge := grownCap_ge w (n + 1) old e
  simp only [Value.slice.injEq, Option.some.injEq, Addr.mk.injEq] at he
  obtain ⟨⟨rfl, _⟩, rfl, rfl⟩ := he
  have hlen : (xs.toArray ++ news.toArray).size = (n + 1) * z.cells.size := by rw [Array.size_append, List.size_toArray, List.size_toArray, hown.1, hl, hzs, Nat.add_mul, Nat.one_mul]
  have hm : (grownCap w (n + 1) old e - (n + 1)) * z.cells.size = grownCap w (n + 1) old e * z.cells.size - (n + 1) * z.cells.size := Nat.sub_mul _ _ _
  have key := cell_of_row _ w.heap.size j _ _ (0, 0) (heap_alloc_new w.drew (.cells (xs.toArray ++ news.toArray ++ Builtin.zeroCells z.cells (grownCap w (n + 1) old e - (n + 1))) e))
  refine key.trans ?_
  rw [Array.getElem?_append_right (by omega), zero_get _ _ _ (by rw [hlen, hm]; omega), hlen, mod_shift hj1]
 rcases hown.2 with ⟨rfl, rfl⟩ | ⟨g, cap, cur, rfl, hbg, hg, hnc, hcm, hcs, htake⟩
 ·have hx : xs = [] := List.eq_nil_of_length_eq_zero (by simpa using hown.1)
  subst hx
  have hr2 := run_append_nil (P := P) w t ty e i z ht hi hz a 1 c news hl' hnews (by omega) (by omega) (by omega)
  rw [hr2] at hr
  simp only [Result.ok.injEq] at hr
  obtain ⟨rfl, rfl⟩ := hr
  have := grown 0
  simpa using this
 ·by_cases hroom : n + 1 ≤ cap
  ·have hfit : n * i.size + news.length ≤ cur.size := by rw [hl', hcs, ← Nat.add_mul]; exact Nat.mul_le_mul_right _ hroom
   have hr2 := run_append_room (P := P) w t ty e i ht hi g n cap cur hg a 1 c news hl' hnews h1 hroom hfit
   rw [hr2] at hr
   simp only [Result.ok.injEq] at hr
   obtain ⟨rfl, rfl⟩ := hr
   intro g' n' cap' he j hj1 hj2
   simp only [Value.slice.injEq, Option.some.injEq, Addr.mk.injEq] at he
   obtain ⟨⟨rfl, _⟩, rfl, rfl⟩ := he
   have hold := hsp g n cap rfl j (by rw [Nat.add_mul] at hj1; omega) hj2
   rw [cell_of_row w g j _ _ (0, 0) hg] at hold
   rw [cell_of_row _ g j _ _ (0, 0) (setRow_heap w g cur _ e _ hg)]
   rw [← hold]
   rw [hzs] at hj1 hj2
   rw [Nat.add_mul, Nat.one_mul] at hj1
   have e1 : (cur.toList.take (n * i.size) ++ news).length = n * i.size + i.size := by
    rw [List.length_append, List.length_take, Array.length_toList, hl, hcs]
    have : n * i.size ≤ cap * i.size := Nat.mul_le_mul_right _ hnc
    omega
   rw [List.getElem?_toArray, List.getElem?_append_right (by omega), e1, List.getElem?_drop, Array.getElem?_toList]
   congr 1
   omega
  ·have holds : ∀ j u, xs[j]? = some u → w.cell? ((⟨g, 0, none⟩ : Addr).add j) = some u := hown.cells (g := g) rfl
   have hr2 := run_append_grow (P := P) w t ty e i z ht hi hz ⟨g, 0, none⟩ n cap xs hown.1 holds a 1 c news hl' hnews (by omega) (by omega) (growslice_fits (by omega) hbytes)
   rw [hr2] at hr
   simp only [Result.ok.injEq] at hr
   obtain ⟨rfl, rfl⟩ := hr
   exact grown cap

/-- append of one, in a round -/
theorem wpListIn_append_z {F : Fence} {nf : Nat} {P : Program} {w : World} {ops : Array Oper} {rest : List Oper} {o : Oper} {a : Act} {Q : Exit → Act → World → Prop}
  (hg : o.guard = none) (s x : Operand) (t : TypeId) (hop : o.op = Op.call { callee := Callee.builtin Builtin.append, args := #[s, x], argTypes := #[t, t] })
  (base : Nat) (e : TypeId) (i : TypeInfo) (z : Value) (size bytes : Nat) (ht : P.underlying t = some (.slice e)) (hi : P.info? e = some i) (hz : i.zero = some z) (hsize : i.size = size) (hby : i.bytes = bytes) (hzs : z.cells.size = size) (hsz : 0 < size)
  (v : Value) (k : Nat) (xs : List Value) (hs : a.eval s = v) (hown : w.ownsRow base e size v k xs) (hsp : SpZ w z.cells v) (ad : Addr) (c : Nat) (news : List Value) (hx : a.eval x = .slice (some ad) 1 c) (hn : news.length = size)
  (hc : ∀ j u, news[j]? = some u → w.cell? (ad.add j) = some u) (h1c : ∀ u ∈ news, u.oneCell' = true) (b1 : k + 1 ≤ maxLen) (b2 : (k + 1) * bytes ≤ 140737488355328) (b3 : base ≤ w.heap.size)
  (hK : ∀ v' w', w'.ownsRow base e size v' (k + 1) (xs ++ news) → w.grownBy w' v.ownBlock → SpZ w' z.cells v' → wpListIn F nf P ops Q rest (a.put o.dst v') w') :
  wpListIn F nf P ops Q (o :: rest) a w := by
 refine wpListIn_plain hg fun K hK' => ?_
 obtain ⟨v', w', hrun, r1, r2, -⟩ := run_append_own (P := P) w base t o.type e i z size bytes ht hi hz hsize hby hzs hsz v k xs hown ad 1 c news (by omega) hc h1c b1 b2 b3
 have r3 := append_spz ht hi hz hsize hby hzs hown hsp hn hc h1c b1 b2 hrun
 unfold Oper.wpIn
 refine ⟨by simp [Oper.about, hop, resolve, Target.leads, Sem.run_pure], ?_⟩
 rw [Oper.semAt_plain F _ _ (by rw [hop]; intro c hc'; cases hc')]
 simp [execOp, hop, resolve, invoke, builtin, hs, hx, hrun, Result.andThen]
 exact hK' _ _ (hK v' w' r1 r2 r3)
end Go.Proofs.YtgpaajolcpgeaaaGreatDoor

namespace Go.Proofs.YtgpaajolcpgeaaaGreatDoor
open Go.RowKit Go.Shelf
attribute [local go_sem] Oper.semAt_some

/-- the cells of a word -/
def V5 (x : TM) : List Value := [.int .i64 x.d.kind, .string x.d.text, .bool false, .slice x.ad x.len x.cap, .int .i64 x.d.at']

set_option maxRecDepth 100000 in
set_option maxHeartbeats 1600000 in
theorem scan_any (s : ByteArray) (w : World) :
  Calls Tryz.prog 64 #[.string s] w fun e w' => e = .returned (.func (.func 107) #[] #[.pointer (some ⟨w.heap.size, 0, none⟩)]) ∧ w' = w.alloc (.cells #[.string s] 9) := by
 go_enter Tryz.func64, Tryz.ntmps64
 go_wp2
 go_ret
 exact ⟨rfl, rfl⟩

/-- the cells of no word -/
def tokZ : Array Value := #[.int .i64 0, .string ⟨#[]⟩, .bool false, .slice none 0 0, .int .i64 0]
theorem boxed_later {W W' : World} {B : Nat} {t : TypeId} {v : Value} (h : Boxed W B t v) (hb : Below W.heap.size W W') : Boxed W' B t v := (hb.block B h.lt).trans h
theorem block_later {W W' : World} {B : Nat} {o : Obj} (h : W.heap[B]? = some o) (hb : Below W.heap.size W W') : W'.heap[B]? = some o := (hb.block B (Array.getElem?_eq_some_iff.1 h).1).trans h
theorem owns_later {W W' : World} {base : Nat} {e : TypeId} {size : Nat} {v : Value} {n : Nat} {xs : List Value} (h : W.ownsRow base e size v n xs) (hb : Below W.heap.size W W') : W'.ownsRow base e size v n xs := by
 obtain ⟨h1, h2⟩ := h
 refine ⟨h1, ?_⟩
 rcases h2 with h2 | ⟨g, cap, cur, h3, h4, h5, h6⟩
 ·exact .inl h2
 ·exact .inr ⟨g, cap, cur, h3, h4, block_later h5 hb, h6⟩

/-- a block that is other than the row's and the box's stays where something is appended -/
theorem append_other {W w1 : World} {B b : Nat} {v v' : Value} {tmp : Obj} (hgrow : (W.alloc tmp).grownBy w1 v.ownBlock) (hb : b < W.heap.size) (h1 : v.ownBlock ≠ some b) (h2 : b ≠ B) :
  (w1.setCell ⟨B, 0, none⟩ v').heap[b]? = W.heap[b]? := by
 rw [Below.heap_setCell _ _ _ _ h2]
 have := hgrow.block b (by simp; omega) (fun e => h1 e.symm)
 rw [this]
 exact Below.heap_alloc W tmp b hb

/-- what Tokens holds in memory while it goes over the words -/
structure TkF (w : World) (s : ByteArray) (v : Value) (xs : List TM) (W : World) : Prop where
 below : Below w.heap.size w W
 res : Boxed W w.heap.size 58 (.slice none 0 0)
 mis : W.heap[w.heap.size + 1]? = some (.cells #[.int .i64 0, .int .i64 0] 31 (0, 0))
 box : Boxed W (w.heap.size + 1 + 1) 58 v
 txt : Boxed W (w.heap.size + 1 + 1 + 1) 9 (.string s)
 dfr : W.heap[w.heap.size + 4]? = some (.deferred (some []))
 row : W.ownsRow w.heap.size 119 5 v xs.length (xs.flatMap V5)
 mag : ∀ x ∈ xs, Mg w W x
 spz : SpZ W tokZ v
theorem TkF.later {w : World} {s : ByteArray} {v : Value} {xs : List TM} {W W' : World} (h : TkF w s v xs W) (hb : Below W.heap.size W W') : TkF w s v xs W' :=
 ⟨grow_step hb h.below, boxed_later h.res hb, block_later h.mis hb, boxed_later h.box hb, boxed_later h.txt hb, block_later h.dfr hb, owns_later h.row hb, fun x hx => (h.mag x hx).later hb, h.spz.below hb⟩
/-- what a step may touch: the row of words, the variable that holds it, the loop's own record -/
def Kx (B : Nat) (W W' : World) : Prop := ∀ b o, W.heap[b]? = some o → b ≠ B → (∀ cs fr, o ≠ .cells cs 119 fr) → (∀ r, o ≠ .loop r) → W'.heap[b]? = some o
theorem kx_put {W : World} {r : Loop} {l B : Nat} (hl : W.heap[l]? = some (.loop r)) (r' : Loop) : Kx B W (W.putObj l (.loop r')) := by
 intro b o hb _ _ ho
 rw [World.putObj_heap_other (fun e => by subst e; rw [hl] at hb; exact ho r (Option.some.inj hb).symm)]
 exact hb
theorem Mg.move {w W W' : World} {x : TM} {B : Nat} {v : Value} (h : Mg w W x) (hB : Below w.heap.size w W') (hbox : Boxed W B 58 v) (hk : Kx B W W') : Mg w W' x := by
 refine ⟨h.1.keep hB ?_, h.2⟩
 intro b hb
 obtain ⟨_, ⟨ha, _⟩ | ⟨b', ys, ha, _, hr, _⟩⟩ := h.1
 ·rw [ha] at hb; cases hb
 ·rw [ha] at hb
  obtain rfl : b' = b := Option.some.inj hb
  have hr' : W.heap[b']? = some (.cells (U ys) 63 (0, 0)) := hr
  refine (hk b' _ hr ?_ ?_ ?_).trans hr.symm
  ·rintro rfl
   have hbx : W.heap[b']? = some (.cells #[v] 58 (0, 0)) := hbox
   rw [hr'] at hbx
   have e := (Obj.cells.inj (Option.some.inj hbx)).2.1
   exact absurd e (by decide)
  ·intro cs fr e; cases e
  ·intro r e; cases e
theorem TkF.move {w : World} {s : ByteArray} {v v' : Value} {xs ys : List TM} {W W' : World} (h : TkF w s v xs W) (hB : Below w.heap.size w W') (hk : Kx (w.heap.size + 1 + 1) W W')
  (hbox : Boxed W' (w.heap.size + 1 + 1) 58 v') (hrow : W'.ownsRow w.heap.size 119 5 v' ys.length (ys.flatMap V5)) (hmag : ∀ x ∈ ys, Mg w W x) (hspz : SpZ W' tokZ v') : TkF w s v' ys W' := by
 refine ⟨hB, ?_, ?_, hbox, ?_, ?_, hrow, fun x hx => (hmag x hx).move hB h.box hk, hspz⟩
 ·exact hk _ _ h.res (by omega) (fun cs fr e => by cases e) (fun r e => by cases e)
 ·exact hk _ _ h.mis (by omega) (fun cs fr e => by cases e) (fun r e => by cases e)
 ·exact hk _ _ h.txt (by omega) (fun cs fr e => by cases e) (fun r e => by cases e)
 ·exact hk _ _ h.dfr (by omega) (fun cs fr e => by cases e) (fun r e => by cases e)
theorem TkF.put {w : World} {s : ByteArray} {v : Value} {xs : List TM} {W : World} {r : Loop} {l : Nat} (h : TkF w s v xs W) (hl : W.heap[l]? = some (.loop r)) (hlb : w.heap.size ≤ l) (r' : Loop) : TkF w s v xs (W.putObj l (.loop r')) := by
 have hne : ∀ (b : Nat) (o : Obj), W.heap[b]? = some o → (∀ r, o ≠ Obj.loop r) → (W.putObj l (.loop r')).heap[b]? = some o := by
  intro b o hb ho
  rw [World.putObj_heap_other (fun e => by subst e; rw [hl] at hb; exact ho r (Option.some.inj hb).symm)]
  exact hb
 refine h.move (belowK_b (w := w) (Nat.le_refl _) W l _ _ hlb hl rfl rfl |> h.below.trans) (fun b o hb _ _ ho => hne b o hb ho) (hne _ _ h.box (fun r e => by cases e)) ?_ h.mag (h.spz.same (fun g hg => ?_))
 ·obtain ⟨h1, h2⟩ := h.row
  refine ⟨h1, ?_⟩
  rcases h2 with h2 | ⟨g, cap, cur, h3, h4, h5, h6⟩
  ·exact .inl h2
  ·exact .inr ⟨g, cap, cur, h3, h4, hne _ _ h5 (fun r e => by cases e), h6⟩
 ·rcases h.row.2 with ⟨e, _⟩ | ⟨g', cap, cur, e, _, h5, _⟩
  ·rw [e] at hg; cases hg
  ·rw [e] at hg
   obtain rfl : g' = g := Option.some.inj hg
   rw [h5]
   exact hne _ _ h5 (fun r e => by cases e)
theorem own_ne {W : World} {base : Nat} {e : TypeId} {size : Nat} {v : Value} {n : Nat} {xs : List Value} {b : Nat} {o : Obj} (h : W.ownsRow base e size v n xs) (hb : W.heap[b]? = some o) (ho : ∀ cs fr, o ≠ .cells cs e fr) : v.ownBlock ≠ some b := by
 intro hv
 rcases h.2 with ⟨rfl, _⟩ | ⟨g, cap, cur, rfl, _, hg, _⟩
 ·cases hv
 ·obtain rfl : g = b := Option.some.inj hv
  rw [hg] at hb
  exact ho cur (0, 0) (Option.some.inj hb).symm
theorem TkF.append {w : World} {s : ByteArray} {v v' : Value} {xs : List TM} {W w1 : World} {x : TM} {tmp : Obj} (h : TkF w s v xs W) (hx : Mg w W x)
  (hown' : w1.ownsRow w.heap.size 119 5 v' (xs.length + 1) (xs.flatMap V5 ++ V5 x)) (hgrow : (W.alloc tmp).grownBy w1 v.ownBlock) (hz : SpZ w1 tokZ v') :
  TkF w s v' (xs ++ [x]) (w1.setCell ⟨w.heap.size + 1 + 1, 0, none⟩ v') := by
 obtain ⟨hv1, hv2, hr2, hk2, hb2⟩ := h.box.appended (by decide) h.row h.below.size (by omega) hown' hgrow
 refine h.move (h.below.trans hb2) ?_ hv2 ?_ ?_ (hz.same (fun g hg => Below.heap_setCell _ _ _ _ (fun e => hv1.not_row (by decide) hown' (by rw [hg, e]))))
 ·intro b o hb hne ht hl
  rw [append_other hgrow (Array.getElem?_eq_some_iff.1 hb).1 (own_ne h.row hb ht) hne]
  exact hb
 ·rw [List.length_append, List.flatMap_append]
  simpa using hr2
 ·intro y hy
  rcases List.mem_append.1 hy with hy | hy
  ·exact h.mag y hy
  ·rw [List.mem_singleton] at hy
   rw [hy]; exact hx
end Go.Proofs.YtgpaajolcpgeaaaGreatDoor

namespace Go.Proofs.YtgpaajolcpgeaaaGreatDoor
open Go.RowKit Go.Shelf
attribute [local go_sem] Oper.semAt_some

theorem infoTok : (Tryz.prog.info? 119).map (fun i => (i.zero, i.size, i.bytes)) = some (some (.agg #[.int .i64 0, .string ⟨#[]⟩, .bool false, .slice none 0 0, .int .i64 0]), 5, 64) := by kernel_rfl

theorem v5_new (W : World) (x : TM) : ∀ j u, (V5 x)[j]? = some u → (W.alloc (.cells (V5 x).toArray 119)).cell? ((⟨W.heap.size, 0, none⟩ : Addr).add j) = some u := by
 intro j u h
 rw [Addr.add_lit, cell_of_row _ _ (0 + j) _ _ (0, 0) (heap_alloc_new W _)]
 simpa using h
theorem v5_one (x : TM) : ∀ u ∈ V5 x, u.oneCell' = true := by
 intro u h
 simp [V5] at h
 rcases h with rfl | rfl | rfl | rfl | rfl <;> rfl
theorem own_slice {W : World} {base : Nat} {e : TypeId} {size : Nat} {v : Value} {n : Nat} {xs : List Value} (h : W.ownsRow base e size v n xs) : ∃ a m c, v = .slice a m c := by
 rcases h.2 with ⟨rfl, _⟩ | ⟨g, cap, cur, rfl, _⟩ <;> exact ⟨_, _, _, rfl⟩
/-- rows of one type stay -/
def KT (e : TypeId) (W W' : World) : Prop := ∀ (b : Nat) (cs : Array Value), W.heap[b]? = some (Obj.cells cs e (0, 0)) → W'.heap[b]? = some (Obj.cells cs e (0, 0))
theorem own_kt {W W' : World} {base : Nat} {e : TypeId} {size : Nat} {v : Value} {n : Nat} {xs : List Value} (h : W.ownsRow base e size v n xs) (hk : KT e W W') : W'.ownsRow base e size v n xs := by
 obtain ⟨h1, h2⟩ := h
 refine ⟨h1, ?_⟩
 rcases h2 with h2 | ⟨g, cap, cur, h3, h4, h5, h6⟩
 ·exact .inl h2
 ·exact .inr ⟨g, cap, cur, h3, h4, hk _ _ h5, h6⟩
theorem out_kt {w W W' : World} {ad : Option Addr} {len cap : Nat} {zs : List Int} (h : Out w W ad len cap zs) (hB : Below w.heap.size w W') (hk : KT 63 W W') : Out w W' ad len cap zs := by
 obtain ⟨_, h2⟩ := h
 refine ⟨hB, ?_⟩
 rcases h2 with h2 | ⟨b, ys, h3, h4, h5, h6⟩
 ·exact .inl h2
 ·exact .inr ⟨b, ys, h3, h4, hk _ _ h5, h6⟩
theorem spz_kt {W W' : World} {base : Nat} {e : TypeId} {size : Nat} {v : Value} {n : Nat} {xs : List Value} {zc : Array Value} (h : W.ownsRow base e size v n xs) (hz : SpZ W zc v) (hk : KT e W W') : SpZ W' zc v := by
 refine hz.same (fun g hg => ?_)
 rcases h.2 with ⟨e, _⟩ | ⟨g', cap, cur, e, _, h5, _⟩
 ·rw [e] at hg; cases hg
 ·rw [e] at hg
  obtain rfl : g' = g := Option.some.inj hg
  rw [h5]
  exact hk _ _ h5
theorem mg_kt {w W W' : World} {x : TM} (h : Mg w W x) (hB : Below w.heap.size w W') (hk : KT 63 W W') : Mg w W' x := ⟨out_kt h.1 hB hk, h.2⟩
theorem kt_end {W Wg : World} {b D : Nat} {t1 t2 e : TypeId} {cs1 cs2 : Array Value} {o o' : Obj} (h1 : W.heap[b]? = some (.cells cs1 t1 (0, 0))) (h2 : W.heap[b + 1]? = some (.cells cs2 t2 (0, 0))) (h3 : ∀ k, k ≠ b → k ≠ b + 1 → Wg.heap[k]? = W.heap[k]?) (hD : W.heap[D]? = some o) (ho : o.isCells = false) (ht1 : e ≠ t1) (ht2 : e ≠ t2) :
  KT e W (Wg.putObj D o') := by
 intro k cs hk
 have n1 : k ≠ b := by rintro rfl; rw [hk] at h1; exact ht1 (Obj.cells.inj (Option.some.inj h1)).2.1
 have n2 : k ≠ b + 1 := by rintro rfl; rw [hk] at h2; exact ht2 (Obj.cells.inj (Option.some.inj h2)).2.1
 have n3 : k ≠ D := by rintro rfl; rw [hk] at hD; rw [← Option.some.inj hD] at ho; cases ho
 rw [World.putObj_heap_other n3, h3 k n1 n2]
 exact hk
theorem results_sm {P : Program} {fn : Func} {p1 p2 : Tmp} {ty1 ty2 e : TypeId} (h : fn.results = #[.cell p1 ty1, .cell p2 ty2]) (tmps : Array Value) (w : World) (g1 g2 : Nat) (v : Value) (t1 t2 : TypeId) (cs2 : Array Value) (fr1 fr2 : Nat × Nat) (d2 : TypeDesc)
  (hp1 : tmps.getD p1 undef = .pointer (some ⟨g1, 0, none⟩)) (hp2 : tmps.getD p2 undef = .pointer (some ⟨g2, 0, none⟩)) (hg1 : w.heap[g1]? = some (.cells #[v] t1 fr1)) (hg2 : w.heap[g2]? = some (.cells cs2 t2 fr2))
  (hu1 : P.underlying ty1 = some (.slice e)) (hu2 : P.underlying ty2 = some d2) (hd2 : (match d2 with | .struct _ | .array _ _ => true | _ => false) = true) (hi2 : (P.info? ty2).map (·.size) = some cs2.size) :
  (results fn tmps).run P w = .ok (.tuple #[v, .agg cs2]) w := by
 have hp1' : tmps[p1]?.getD undef = .pointer (some ⟨g1, 0, none⟩) := by simpa using hp1
 have hp2' : tmps[p2]?.getD undef = .pointer (some ⟨g2, 0, none⟩) := by simpa using hp2
 have hc := cell_of_row w g1 0 _ _ fr1 hg1
 have hl : (loadVar ty1 ⟨g1, 0, none⟩).run P w = .ok v w := by
  simp [loadVar, isAgg, run_underlying hu1, go_sem, hc]
 simp [results, h, hp1', hp2', asAddr, hl, run_loadVar_row w g2 t2 ty2 cs2 fr2 d2 hg2 hu2 hd2 hi2]
theorem two_set {W : World} {b : Nat} {t1 t2 : TypeId} {u : Value} {p q : Value} (h1 : Boxed W b t1 u) (h2 : W.heap[b + 1]? = some (.cells #[p, q] t2 (0, 0))) (v x y : Value) :
  (((W.setCell ⟨b, 0, none⟩ v).setCell ⟨b + 1, 0, none⟩ x).setCell ⟨b + 1, 1, none⟩ y).heap[b]? = some (.cells #[v] t1 (0, 0)) ∧
  (((W.setCell ⟨b, 0, none⟩ v).setCell ⟨b + 1, 0, none⟩ x).setCell ⟨b + 1, 1, none⟩ y).heap[b + 1]? = some (.cells #[x, y] t2 (0, 0)) ∧
  ∀ k, k ≠ b → k ≠ b + 1 → (((W.setCell ⟨b, 0, none⟩ v).setCell ⟨b + 1, 0, none⟩ x).setCell ⟨b + 1, 1, none⟩ y).heap[k]? = W.heap[k]? := by
 have e : b ≠ b + 1 := by omega
 refine ⟨?_, ?_, ?_⟩
 ·rw [Below.heap_setCell _ _ _ _ e, Below.heap_setCell _ _ _ _ e]
  exact heap_setCell_same W b 0 _ _ _ h1
 ·have y0 : (W.setCell ⟨b, 0, none⟩ v).heap[b + 1]? = some (.cells #[p, q] t2 (0, 0)) := (Below.heap_setCell _ _ _ _ (Ne.symm e)).trans h2
  have y1 := heap_setCell_same _ _ 0 _ _ x y0
  have y2 := heap_setCell_same _ _ 1 _ _ y y1
  simpa using y2
 ·intro k h1 h2
  rw [Below.heap_setCell _ _ _ _ h2, Below.heap_setCell _ _ _ _ h2, Below.heap_setCell _ _ _ _ h1]
/-- what is over when an error has come -/
def TkE (w : World) (x : Int) (p : Nat) (r : Loop) (W : World) : Prop :=
 Below w.heap.size w W ∧ Boxed W w.heap.size 58 (.slice none 0 0) ∧ W.heap[w.heap.size + 1]? = some (.cells #[.int .i64 x, .int .i64 p] 31 (0, 0)) ∧ W.heap[w.heap.size + 4]? = some (.deferred (some [])) ∧
 W.heap[w.heap.size + 5]? = some (.loop { r with state := .done, pending := some .ret })

theorem tkf_new {w : World} (s : ByteArray) (r : Loop) : TkF w s (.slice none 0 0) [] ((((((w.alloc (.cells #[.slice none 0 0] 58)).alloc (.cells #[.int .i64 0, .int .i64 0] 31)).alloc (.cells #[.slice none 0 0] 58)).alloc (.cells #[.string s] 9)).alloc (.deferred (some []))).alloc (.loop r)) := by
 have b1 := below_alloc w (.cells #[.slice none 0 0] 58)
 have n1 := heap_alloc_new w (.cells #[.slice none 0 0] 58)
 have s1 : (w.alloc (.cells #[.slice none 0 0] 58)).heap.size = w.heap.size + 1 := by simp
 generalize w.alloc (.cells #[.slice none 0 0] 58) = w1 at *
 have b2 := below_alloc w1 (.cells #[.int .i64 0, .int .i64 0] 31)
 have n2 := heap_alloc_new w1 (.cells #[.int .i64 0, .int .i64 0] 31)
 have s2 : (w1.alloc (.cells #[.int .i64 0, .int .i64 0] 31)).heap.size = w.heap.size + 1 + 1 := by simp [s1]
 rw [s1] at n2
 generalize w1.alloc (.cells #[.int .i64 0, .int .i64 0] 31) = w2 at *
 have b3 := below_alloc w2 (.cells #[.slice none 0 0] 58)
 have n3 := heap_alloc_new w2 (.cells #[.slice none 0 0] 58)
 have s3 : (w2.alloc (.cells #[.slice none 0 0] 58)).heap.size = w.heap.size + 1 + 1 + 1 := by simp [s2]
 rw [s2] at n3
 generalize w2.alloc (.cells #[.slice none 0 0] 58) = w3 at *
 have b4 := below_alloc w3 (.cells #[.string s] 9)
 have n4 := heap_alloc_new w3 (.cells #[.string s] 9)
 have s4 : (w3.alloc (.cells #[.string s] 9)).heap.size = w.heap.size + 4 := by simp [s3]
 rw [s3] at n4
 generalize w3.alloc (.cells #[.string s] 9) = w4 at *
 have b5 := below_alloc w4 (.deferred (some []))
 have n5 := heap_alloc_new w4 (.deferred (some []))
 rw [s4] at n5
 generalize w4.alloc (.deferred (some [])) = w5 at *
 have b6 := below_alloc w5 (.loop r)
 generalize w5.alloc (.loop r) = w6 at *
 have b56 := grow_step b6 b5
 have b46 := grow_step b56 b4
 have b36 := grow_step b46 b3
 have b26 := grow_step b36 b2
 have b16 := grow_step b26 b1
 exact ⟨b16, block_later n1 b26, block_later n2 b36, block_later n3 b46, block_later n4 b56, block_later n5 b6, World.ownsRow_nil _ _ _ _, fun x hx => (by cases hx), spz_nil _ _⟩
theorem tke_of {w : World} {s : ByteArray} {v : Value} {xs : List TM} {W : World} {r : Loop} (h : TkF w s v xs W) (hl : W.heap[w.heap.size + 4 + 1]? = some (.loop { r with state := .busy })) (x : Int) (p : Nat) :
  (((W.setCell ⟨w.heap.size, 0, none⟩ (.slice none 0 0)).setCell ⟨w.heap.size + 1, 0, none⟩ (.int .i64 x)).setCell ⟨w.heap.size + 1, 1, none⟩ (.int .i64 p)).drew.heap[w.heap.size + 4 + 1]? = some (.loop { r with state := .busy }) ∧
  TkE w x p r ((((W.setCell ⟨w.heap.size, 0, none⟩ (.slice none 0 0)).setCell ⟨w.heap.size + 1, 0, none⟩ (.int .i64 x)).setCell ⟨w.heap.size + 1, 1, none⟩ (.int .i64 p)).drew.putObj (w.heap.size + 4 + 1) (.loop { r with state := .done, pending := some .ret })) := by
 have e1 : ∀ b, b ≠ w.heap.size → b ≠ w.heap.size + 1 → (((W.setCell ⟨w.heap.size, 0, none⟩ (.slice none 0 0)).setCell ⟨w.heap.size + 1, 0, none⟩ (.int .i64 x)).setCell ⟨w.heap.size + 1, 1, none⟩ (.int .i64 p)).drew.heap[b]? = W.heap[b]? := by
  intro b h1 h2
  show (((W.setCell ⟨w.heap.size, 0, none⟩ (.slice none 0 0)).setCell ⟨w.heap.size + 1, 0, none⟩ (.int .i64 x)).setCell ⟨w.heap.size + 1, 1, none⟩ (.int .i64 p)).heap[b]? = _
  rw [Below.heap_setCell _ _ _ _ h2, Below.heap_setCell _ _ _ _ h2, Below.heap_setCell _ _ _ _ h1]
 have hlF := (e1 (w.heap.size + 4 + 1) (by omega) (by omega)).trans hl
 have hbB : Below w.heap.size w (((W.setCell ⟨w.heap.size, 0, none⟩ (.slice none 0 0)).setCell ⟨w.heap.size + 1, 0, none⟩ (.int .i64 x)).setCell ⟨w.heap.size + 1, 1, none⟩ (.int .i64 p)).drew :=
  (((h.below.setCell (p := ⟨w.heap.size, 0, none⟩) (Nat.le_refl _) _).setCell (p := ⟨w.heap.size + 1, 0, none⟩) (by simp) _).setCell (p := ⟨w.heap.size + 1, 1, none⟩) (by simp) _).drew
 refine ⟨hlF, hbB.trans (belowK_b (w := w) (Nat.le_refl _) _ _ _ _ (by omega) hlF rfl rfl), ?_, ?_, ?_, ?_⟩
 ·refine (World.putObj_heap_other (by omega)).trans ?_
  show (((W.setCell ⟨w.heap.size, 0, none⟩ (.slice none 0 0)).setCell ⟨w.heap.size + 1, 0, none⟩ (.int .i64 x)).setCell ⟨w.heap.size + 1, 1, none⟩ (.int .i64 p)).heap[w.heap.size]? = _
  have e : w.heap.size ≠ w.heap.size + 1 := by omega
  rw [Below.heap_setCell _ _ _ _ e, Below.heap_setCell _ _ _ _ e]
  exact heap_setCell_same W w.heap.size 0 _ _ _ h.res
 ·refine (World.putObj_heap_other (by omega)).trans ?_
  have y0 : (W.setCell ⟨w.heap.size, 0, none⟩ (.slice none 0 0)).heap[w.heap.size + 1]? = some (.cells #[.int .i64 0, .int .i64 0] 31 (0, 0)) := (Below.heap_setCell _ _ _ _ (show w.heap.size + 1 ≠ w.heap.size by omega)).trans h.mis
  have y1 := heap_setCell_same _ _ 0 _ _ (.int .i64 x) y0
  have y2 := heap_setCell_same _ _ 1 _ _ (.int .i64 p) y1
  show (((W.setCell ⟨w.heap.size, 0, none⟩ (.slice none 0 0)).setCell ⟨w.heap.size + 1, 0, none⟩ (.int .i64 x)).setCell ⟨w.heap.size + 1, 1, none⟩ (.int .i64 p)).heap[w.heap.size + 1]? = _
  simpa using y2
 ·refine (World.putObj_heap_other (by omega)).trans ?_
  exact (e1 _ (by omega) (by omega)).trans h.dfr
 ·exact World.putObj_heap_same (Array.getElem?_eq_some_iff.1 hlF).1

set_option maxRecDepth 100000 in
set_option maxHeartbeats 3200000 in
theorem tokens_any (s : ByteArray) (w : World) (hs : s.size ≤ 1099511627776) (hS : Sgn w) :
  Calls Tryz.prog 36 #[.string s] w fun e w' =>
   (∃ (xs : List TM) (v : Value), Lxs s (xs.map TM.d) 0 0 ∧ e = .returned (.tuple #[v, misV 0 0]) ∧ w'.ownsRow w.heap.size 119 5 v xs.length (xs.flatMap V5) ∧ (∀ x ∈ xs, Mg w w' x) ∧ SpZ w' tokZ v ∧ Below w.heap.size w w') ∨
   (∃ ts x p, Lxs s ts x p ∧ x ≠ 0 ∧ e = .returned (.tuple #[.slice none 0 0, misV x (p : Nat)]) ∧ Below w.heap.size w w') := by
 obtain ⟨i0, hi, hz0, hz1, hz2⟩ := info_parts infoTok
 refine (callsIn_wide (n := 3)).1 ?_
 refine callsIn_of_wp_marks Tryz.func36 rfl trivial ?_ rfl
 simp only [Tryz.ntmps36, List.size_toArray, List.length_cons, List.length_nil, Nat.reduceAdd, Nat.reduceSub, Array.replicate_succ, Array.replicate_zero, List.push_toArray, List.append_toArray, List.nil_append, List.cons_append]
 gi_wp2
 refine ⟨trivial, (callsIn_wide.2 (scan_any s _)).mono ?_⟩
 rintro e w' ⟨rfl, rfl⟩
 gi_wp2
 refine range_enter rfl (enters_of Tryz.func107 (by kernel_rfl) rfl) (fun fn r hr => ?_)
 have hF : TkF w s (.slice none 0 0) [] ((((((w.alloc (.cells #[.slice none 0 0] 58)).alloc (.cells #[.int .i64 0, .int .i64 0] 31)).alloc (.cells #[.slice none 0 0] 58)).alloc (.cells #[.string s] 9)).alloc (.deferred (some []))).alloc (.loop r)) := tkf_new s r
 have hL : ((((((w.alloc (.cells #[.slice none 0 0] 58)).alloc (.cells #[.int .i64 0, .int .i64 0] 31)).alloc (.cells #[.slice none 0 0] 58)).alloc (.cells #[.string s] 9)).alloc (.deferred (some []))).alloc (.loop r)).heap[w.heap.size + 5]? = some (.loop r) := by
  have := heap_alloc_new (((((w.alloc (.cells #[.slice none 0 0] 58)).alloc (.cells #[.int .i64 0, .int .i64 0] 31)).alloc (.cells #[.slice none 0 0] 58)).alloc (.cells #[.string s] 9)).alloc (.deferred (some []))) (.loop r)
  simpa using this
 have hsz : ((((w.alloc (.cells #[.slice none 0 0] 58)).alloc (.cells #[.int .i64 0, .int .i64 0] 31)).alloc (.cells #[.slice none 0 0] 58)).alloc (.cells #[.string s] 9)).heap.size = w.heap.size + 4 := by simp
 rw [hsz]
 generalize (((((w.alloc (.cells #[.slice none 0 0] 58)).alloc (.cells #[.int .i64 0, .int .i64 0] 31)).alloc (.cells #[.slice none 0 0] 58)).alloc (.cells #[.string s] 9)).alloc (.deferred (some []))).alloc (.loop r) = WW at *
 clear hsz
 have herr : ∀ (pre : List TM) (x : Int) (p : Nat) (W : World), ((∃ v, TkF w s v pre W) ∧ W.heap[w.heap.size + 5]? = some (.loop r)) → x ≠ 0 → YieldAt Fence.wide (3 - 1 - 1) Tryz.prog (w.heap.size + 4 + 1) #[tok0, misV x (p : Nat)] W fun e W' => (∃ b, e = .returned (.bool b)) ∧ TkE w x p r W' := by
  rintro pre x p W ⟨⟨v, h⟩, hl⟩ hx
  have hxb : (x == 0) = false := by rw [beq_eq_false_iff_ne]; exact hx
  refine round_at hr hl rfl ?_
  simp only [tok0, misV]
  gi_wp2
  have ba : Below W.heap.size W ((W.alloc (.cells #[.int .i64 0, .string ⟨#[]⟩, .bool false, .slice none 0 0, .int .i64 0] 119)).alloc (.cells #[.int .i64 x, .int .i64 p] 31)) := below_alloc' (below_alloc _ _) _
  have z : ((W.alloc (.cells #[.int .i64 0, .string ⟨#[]⟩, .bool false, .slice none 0 0, .int .i64 0] 119)).alloc (.cells #[.int .i64 x, .int .i64 p] 31)).heap[W.heap.size + 1]? = some (.cells #[.int .i64 x, .int .i64 p] 31 (0, 0)) := by
   have := heap_alloc_new (W.alloc (.cells #[.int .i64 0, .string ⟨#[]⟩, .bool false, .slice none 0 0, .int .i64 0] 119)) (.cells #[.int .i64 x, .int .i64 p] 31)
   simpa using this
  generalize (W.alloc (.cells #[.int .i64 0, .string ⟨#[]⟩, .bool false, .slice none 0 0, .int .i64 0] 119)).alloc (.cells #[.int .i64 x, .int .i64 p] 31) = Wa at *
  have h2 := h.later ba
  have hl2 := block_later hl ba
  refine ⟨hl2, ?_⟩
  have h3 := h2.put hl2 (by omega) { r with state := .busy }
  have z3 : (Wa.putObj (w.heap.size + 4 + 1) (.loop { r with state := .busy })).heap[W.heap.size + 1]? = some (.cells #[.int .i64 x, .int .i64 p] 31 (0, 0)) := (World.putObj_heap_other (fun e => by rw [e, hl2] at z; cases z)).trans z
  have hlc : (Wa.putObj (w.heap.size + 4 + 1) (.loop { r with state := .busy })).heap[w.heap.size + 4 + 1]? = some (.loop { r with state := .busy }) := World.putObj_heap_same (Array.getElem?_eq_some_iff.1 hl2).1
  generalize Wa.putObj (w.heap.size + 4 + 1) (.loop { r with state := .busy }) = Wc at *
  have zc : Wc.cell? ⟨W.heap.size + 1, 0, none⟩ = some (.int .i64 x) := cell_of_row Wc _ 0 _ _ (0, 0) z3
  have zd : Wc.cell? ⟨W.heap.size + 1, 1, none⟩ = some (.int .i64 p) := cell_of_row Wc _ 1 _ _ (0, 0) z3
  have c0 := h3.res.cell
  have f0 := h3.res.frozen
  have c1 := cell_of_row Wc _ 0 _ _ (0, 0) h3.mis
  have c2 := cell_of_row Wc _ 1 _ _ (0, 0) h3.mis
  have f1 := frozen_of_row Wc _ 0 _ _ h3.mis
  have f2 := frozen_of_row Wc _ 1 _ _ h3.mis
  have hWl := (Array.getElem?_eq_some_iff.1 hl).1
  have n1 : ¬ (W.heap.size + 1 = w.heap.size) := by omega
  have n2 : ¬ (W.heap.size + 1 = w.heap.size + 1) := by omega
  have n3 : ¬ (w.heap.size = W.heap.size + 1) := by omega
  have n4 : ¬ (w.heap.size + 1 = W.heap.size + 1) := by omega
  have n5 : ¬ (w.heap.size + 1 = w.heap.size) := by omega
  have n6 : ¬ (w.heap.size = w.heap.size + 1) := by omega
  clear h hl h2 hl2 ba z
  gi_wp2
  have hmx : Tryz.prog.follows .mixedOrders = true := by kernel_rfl
  have hfin := tke_of h3 hlc x p
  gi_region_with_o (fail)
  all_goals gi_wp2
  all_goals exact ⟨hfin.1, .inl rfl, hfin.2⟩
 by_cases hlong : 4096 < s.size
 ·refine (scan1_long s (w.heap.size + 1 + 1 + 1) (w.heap.size + 4 + 1) _ WW (fun W => (∃ v, TkF w s v [] W) ∧ W.heap[w.heap.size + 5]? = some (.loop r)) (fun W => TkE w 40 0 r W) ?_ hF.txt.cell hlong hs ⟨⟨_, hF⟩, hL⟩).mono ?_
  ·exact fun W hJ => herr [] 40 0 W hJ (by decide)
  ·rintro e W' ⟨hret, hE⟩
   refine ⟨hret, .inr ⟨.ret, hE.2.2.2.2, ?_⟩⟩
   obtain ⟨e1, e2, e3, e4, e5⟩ := hE
   gi_wp2
   have hdf := (World.putObj_heap_other (r := w.heap.size + 4 + 1) (o := .loop { r with state := .exhausted, pending := some .ret }) (by omega)).trans e4
   refine ⟨by simp, .inl ⟨_, _, rfl, run_takeDeferred hdf, ?_⟩⟩
   refine ⟨_, results_sm rfl _ _ w.heap.size (w.heap.size + 1) _ _ _ _ _ _ _ rfl rfl ((World.putObj_heap_other (by omega)).trans ((World.putObj_heap_other (by omega)).trans e2)) ((World.putObj_heap_other (by omega)).trans ((World.putObj_heap_other (by omega)).trans e3)) Tryz.underlying58 Tryz.underlying31 rfl (by kernel_rfl), ?_⟩
   refine .inr ⟨[], 40, 0, by unfold Lxs; rw [if_pos hlong]; exact ⟨rfl, rfl, rfl⟩, by decide, rfl, (e1.trans (belowK_b (w := w) (Nat.le_refl _) W' _ _ _ (by omega) e5 rfl rfl)).trans (belowK_b (w := w) (Nat.le_refl _) _ (w.heap.size + 4) _ _ (by omega) hdf rfl rfl)⟩
 ·refine (scan1_short s (w.heap.size + 1 + 1 + 1) (w.heap.size + 4 + 1) _ WW (fun xs W => (∃ v, TkF w s v xs W) ∧ W.heap[w.heap.size + 5]? = some (.loop r)) (fun _ _ => False) (fun _ x p W => x ≠ 0 ∧ TkE w x p r W) ?_ ?_ ?_ ?_ (by omega) ⟨⟨_, hF⟩, hL⟩).mono ?_
  ·rintro xs W ⟨⟨v, h⟩, -⟩
   exact ⟨h.txt.cell, hS.below h.below⟩
  ·rintro xs W W' ⟨⟨v, h⟩, h'⟩ hb
   exact ⟨⟨v, h.later hb⟩, block_later h' hb⟩
  ·rintro pre x W0 W1 ⟨⟨v, h⟩, hl⟩ hlen hb hM -
   have h1 := h.later hb
   have hl1 := block_later hl hb
   refine round_at hr hl1 rfl ?_
   simp only [tokV, misV]
   gi_wp2
   have ba : Below W1.heap.size W1 ((W1.alloc (.cells #[.int .i64 x.d.kind, .string x.d.text, .bool false, .slice x.ad x.len x.cap, .int .i64 x.d.at'] 119)).alloc (.cells #[.int .i64 0, .int .i64 0] 31)) := below_alloc' (below_alloc _ _) _
   have y : TB ((W1.alloc (.cells #[.int .i64 x.d.kind, .string x.d.text, .bool false, .slice x.ad x.len x.cap, .int .i64 x.d.at'] 119)).alloc (.cells #[.int .i64 0, .int .i64 0] 31)) W1.heap.size (.int .i64 x.d.kind) (.string x.d.text) (.bool false) (.slice x.ad x.len x.cap) (.int .i64 x.d.at') := (tb_new W1 _ _ _ _ _).below (below_alloc _ _)
   have z : ((W1.alloc (.cells #[.int .i64 x.d.kind, .string x.d.text, .bool false, .slice x.ad x.len x.cap, .int .i64 x.d.at'] 119)).alloc (.cells #[.int .i64 0, .int .i64 0] 31)).heap[W1.heap.size + 1]? = some (.cells #[.int .i64 0, .int .i64 0] 31 (0, 0)) := by
    have := heap_alloc_new (W1.alloc (.cells #[.int .i64 x.d.kind, .string x.d.text, .bool false, .slice x.ad x.len x.cap, .int .i64 x.d.at'] 119)) (.cells #[.int .i64 0, .int .i64 0] 31)
    simpa using this
   generalize (W1.alloc (.cells #[.int .i64 x.d.kind, .string x.d.text, .bool false, .slice x.ad x.len x.cap, .int .i64 x.d.at'] 119)).alloc (.cells #[.int .i64 0, .int .i64 0] 31) = Wa at *
   have h2 := h1.later ba
   have hl2 := block_later hl1 ba
   refine ⟨hl2, ?_⟩
   have hM2 : Mg w W1 x := ⟨hM.1.outer h.below, hM.2⟩
   have h3 := h2.put hl2 (by omega) { r with state := .busy }
   have hM3 := (hM2.later ba).move h3.below h2.box (kx_put hl2 { r with state := .busy })
   have y3 : TB (Wa.putObj (w.heap.size + 4 + 1) (.loop { r with state := .busy })) W1.heap.size (.int .i64 x.d.kind) (.string x.d.text) (.bool false) (.slice x.ad x.len x.cap) (.int .i64 x.d.at') := (World.putObj_heap_other (fun e => by rw [e] at y; exact absurd (y.symm.trans hl2) (by simp))).trans y
   have z3 : (Wa.putObj (w.heap.size + 4 + 1) (.loop { r with state := .busy })).heap[W1.heap.size + 1]? = some (.cells #[.int .i64 0, .int .i64 0] 31 (0, 0)) := (World.putObj_heap_other (fun e => by rw [e, hl2] at z; cases z)).trans z
   have hlc : (Wa.putObj (w.heap.size + 4 + 1) (.loop { r with state := .busy })).heap[w.heap.size + 4 + 1]? = some (.loop { r with state := .busy }) := World.putObj_heap_same (Array.getElem?_eq_some_iff.1 hl2).1
   have hmid : ∀ b, W0.heap.size ≤ b → b < W1.heap.size → (Wa.putObj (w.heap.size + 4 + 1) (.loop { r with state := .busy })).heap[b]? = W1.heap[b]? := by
    intro b hb1 hb2
    rw [World.putObj_heap_other (by have := (Array.getElem?_eq_some_iff.1 hl).1; omega)]
    exact ba.block b hb2
   have hsz1 : W1.heap.size ≤ (Wa.putObj (w.heap.size + 4 + 1) (.loop { r with state := .busy })).heap.size := by simpa [World.putObj] using ba.size
   generalize Wa.putObj (w.heap.size + 4 + 1) (.loop { r with state := .busy }) = Wc at *
   have zc : Wc.cell? ⟨W1.heap.size + 1, 0, none⟩ = some (.int .i64 0) := cell_of_row Wc _ 0 _ _ (0, 0) z3
   have bc := h3.box.cell
   have bf := h3.box.frozen
   have y0 := y3.c0
   have y1 := y3.c1
   have y2 := y3.c2
   have y4 := y3.c3
   have y5 := y3.c4
   clear h1 hl1 h2 hl2 ba hM2 y z z3 y3 hi
   obtain ⟨i0, hi, hz0, hz1, hz2⟩ := info_parts infoTok
   gi_wp2_with (gi_at_builtin; refine wpListIn_append_z rfl _ _ 58 rfl w.heap.size 119 i0 _ 5 64 Tryz.underlying58 hi hz0 hz1 hz2 rfl (by decide) _ _ _ rfl (h3.row.alloc _) (h3.spz.below (below_alloc _ _)) ⟨Wc.heap.size, 0, none⟩ 1 (V5 x) rfl rfl (v5_new _ _) (v5_one _) (by unfold maxLen; omega) (by omega) (by have := h3.below.size; simp; omega) ?_; intro v' w1 hown' hgrow hspz; obtain ⟨g', cap', rfl⟩ := ownsRow_succ hown'; obtain ⟨hv1, hv2, hr2, hk2, hb2⟩ := h3.box.appended (by decide) h3.row h3.below.size (by omega) hown' hgrow; have hc1 := hv1.cell; have hf1 := hv1.frozen)
   have hT := h3.append hM3 hown' hgrow hspz
   have hlF := hk2.same _ _ hlc rfl
   have hT2 := hT.put hlF (by omega) { r with state := .ready, pending := none }
   refine ⟨hlF, rfl, ⟨⟨_, hT2⟩, ?_⟩, ?_⟩
   ·rw [World.putObj_heap_same (Array.getElem?_eq_some_iff.1 hlF).1, lrec_again hr]
   ·intro b hb1 hb2
    have hlW := (Array.getElem?_eq_some_iff.1 hl).1
    have hbW := h.box.lt
    rw [World.putObj_heap_other (by omega), append_other hgrow (by have := hsz1; omega) (fun e => by have := (h.row.lt _ e).2; omega) (by omega)]
    exact hmid b hb1 hb2
  ·intro pre x p W hJ hx
   obtain ⟨fn', tm', as', bo', hy', hR'⟩ := herr pre x p W hJ hx
   exact ⟨fn', tm', as', bo', hy', hR'.mono (fun e W' h => ⟨h.1, hx, h.2⟩)⟩
  ·rintro e W' ⟨hret, ⟨xs, hx, ⟨v, h⟩, hl⟩ | ⟨xs, x, p, hx, hx0, hE⟩ | ⟨_, hf, _⟩⟩
   ·refine ⟨hret, .inl ⟨hl, ?_⟩⟩
    obtain ⟨va, vn, vc, rfl⟩ := own_slice h.row
    have h2 := h.put hl (by omega) { r with state := .exhausted }
    generalize W'.putObj (w.heap.size + 4 + 1) (.loop { r with state := .exhausted }) = Wf at *
    have c0 := h2.res.cell
    have f0 := h2.res.frozen
    have c1 := cell_of_row Wf _ 0 _ _ (0, 0) h2.mis
    have c2 := cell_of_row Wf _ 1 _ _ (0, 0) h2.mis
    have f1 := frozen_of_row Wf _ 0 _ _ h2.mis
    have f2 := frozen_of_row Wf _ 1 _ _ h2.mis
    have c3 := h2.box.cell
    have ht := two_set h2.res h2.mis (.slice va vn vc) (.int .i64 0) (.int .i64 0)
    have hB : Below w.heap.size w (((Wf.setCell ⟨w.heap.size, 0, none⟩ (.slice va vn vc)).setCell ⟨w.heap.size + 1, 0, none⟩ (.int .i64 0)).setCell ⟨w.heap.size + 1, 1, none⟩ (.int .i64 0)) :=
     ((h2.below.setCell (p := ⟨w.heap.size, 0, none⟩) (Nat.le_refl _) _).setCell (p := ⟨w.heap.size + 1, 0, none⟩) (by simp) _).setCell (p := ⟨w.heap.size + 1, 1, none⟩) (by simp) _
    gi_wp2
    generalize ((Wf.setCell ⟨w.heap.size, 0, none⟩ (.slice va vn vc)).setCell ⟨w.heap.size + 1, 0, none⟩ (.int .i64 0)).setCell ⟨w.heap.size + 1, 1, none⟩ (.int .i64 0) = Wg at *
    have hdf := (ht.2.2 (w.heap.size + 4) (by omega) (by omega)).trans h2.dfr
    refine ⟨by simp, .inl ⟨_, _, rfl, run_takeDeferred hdf, ?_⟩⟩
    refine ⟨_, results_sm rfl _ _ w.heap.size (w.heap.size + 1) _ _ _ _ _ _ _ rfl rfl ((World.putObj_heap_other (by omega)).trans ht.1) ((World.putObj_heap_other (by omega)).trans ht.2.1) Tryz.underlying58 Tryz.underlying31 rfl (by kernel_rfl), ?_⟩
    have hBf := hB.trans (belowK_b (w := w) (Nat.le_refl _) Wg (w.heap.size + 4) _ (.deferred none) (by omega) hdf rfl rfl)
    refine .inl ⟨xs, by unfold Lxs; rw [if_neg hlong]; exact hx, _, rfl, own_kt h2.row (kt_end h2.res h2.mis ht.2.2 h2.dfr rfl (by decide) (by decide)), fun x hx => mg_kt (h2.mag x hx) hBf (kt_end h2.res h2.mis ht.2.2 h2.dfr rfl (by decide) (by decide)), spz_kt h2.row h2.spz (kt_end h2.res h2.mis ht.2.2 h2.dfr rfl (by decide) (by decide)), hBf⟩
   ·refine ⟨hret, .inr ⟨.ret, hE.2.2.2.2, ?_⟩⟩
    obtain ⟨e1, e2, e3, e4, e5⟩ := hE
    gi_wp2
    have hdf := (World.putObj_heap_other (r := w.heap.size + 4 + 1) (o := .loop { r with state := .exhausted, pending := some .ret }) (by omega)).trans e4
    refine ⟨by simp, .inl ⟨_, _, rfl, run_takeDeferred hdf, ?_⟩⟩
    refine ⟨_, results_sm rfl _ _ w.heap.size (w.heap.size + 1) _ _ _ _ _ _ _ rfl rfl ((World.putObj_heap_other (by omega)).trans ((World.putObj_heap_other (by omega)).trans e2)) ((World.putObj_heap_other (by omega)).trans ((World.putObj_heap_other (by omega)).trans e3)) Tryz.underlying58 Tryz.underlying31 rfl (by kernel_rfl), ?_⟩
    refine .inr ⟨_, _, _, by unfold Lxs; rw [if_neg hlong]; exact hx, hx0, rfl, (e1.trans (belowK_b (w := w) (Nat.le_refl _) W' _ _ _ (by omega) e5 rfl rfl)).trans (belowK_b (w := w) (Nat.le_refl _) _ (w.heap.size + 4) _ _ (by omega) hdf rfl rfl)⟩
   ·exact hf.elim
end Go.Proofs.YtgpaajolcpgeaaaGreatDoor

namespace Go.Proofs.YtgpaajolcpgeaaaGreatDoor
open Go.RowKit Go.Shelf

/-- is a text a name? -/
def nmB (s : ByteArray) : Bool := decide (0 < s.size) && (decide (cls (bt s 0) = 2) && ((List.range s.size).all (fun j => inRow (bt s j)) && decide (kd s = 2)))
theorem range_all {n : Nat} {p : Nat → Bool} : (List.range n).all p = true ↔ ∀ j, j < n → p j = true := by
 simp [List.all_eq_true]
theorem row_all {s : ByteArray} : (List.range s.size).all (fun j => inRow (bt s j)) = true ↔ RowEnd s s.size := by
 rw [range_all]
 exact ⟨fun h => ⟨Nat.le_refl _, h, fun h' => absurd h' (by omega)⟩, fun h => h.2.1⟩
theorem nmB_iff {s : ByteArray} : nmB s = true ↔ 0 < s.size ∧ cls (bt s 0) = 2 ∧ RowEnd s s.size ∧ kd s = 2 := by
 unfold nmB
 rw [Bool.and_eq_true, Bool.and_eq_true, Bool.and_eq_true, row_all]
 simp only [decide_eq_true_iff]

set_option maxRecDepth 100000 in
set_option maxHeartbeats 1600000 in
theorem isName_n (s : ByteArray) (w : World) (hs : s.size ≤ 1099511627776) :
  Calls Tryz.prog 120 #[.string s] w fun e w' => e = .returned (.bool (nmB s)) ∧ w = w' := by
 by_cases h0 : 0 < s.size
 ·have hne := ne_empty h0
  have hb := bt_lt s 0
  have he := bt_eq s 0 h0
  go_enter Tryz.func120, Tryz.ntmps120
  go_wp2_with fail
  refine (lookAt_n ((s[0]'h0).toNat : Int) (by omega) (by omega) w).mono ?_
  rintro e w' ⟨rfl, rfl⟩
  rw [← he]
  by_cases hc : cls (bt s 0) = 2
  ·have HC := hide hc
   rw [hc]
   clear hc
   go_wp2_with fail
   refine (rowOf_n s w hs).mono ?_
   rintro e w' ⟨k, hk, rfl, rfl⟩
   by_cases hks : k = s.size
   ·subst hks
    have HK := hide hk
    clear hk
    rw [extract_all]
    have hee : (s.toList == s.toList) = true := by simp
    go_wp2_with fail
    refine (kindOf_n s w hs).mono ?_
    rintro e w' ⟨rfl, rfl⟩
    have HN : Hid (nmB s = (kd s == 2)) := by
     show _ = _
     unfold nmB
     rw [row_all.2 HK.out, decide_eq_true h0, decide_eq_true HC.out]
     simp only [Bool.true_and]
     rfl
    go_wp2_with fail
    go_ret
    exact ⟨ret_bool HN.out.symm, rfl⟩
   ·have HK := hide hk
    have hkl := hk.1
    have hx : ((s.extract 0 k).toList == s.toList) = false := by
     rw [Bool.eq_false_iff]
     intro h
     have h2 := congrArg ByteArray.size (toList_iff.1 h)
     rw [ByteArray.size_extract] at h2
     omega
    have HN : Hid (nmB s = false) := by
     show _ = _
     rw [Bool.eq_false_iff]
     intro h
     exact hks ((nmB_iff.1 h).2.2.1.unique HK.out).symm
    clear hk hks
    go_wp2_with fail
    go_ret
    exact ⟨ret_bool HN.out.symm, rfl⟩
  ·have HN : Hid (nmB s = false) := by
    show _ = _
    rw [Bool.eq_false_iff]
    intro h
    exact hc (nmB_iff.1 h).2.1
   have hc2 : (cls (bt s 0) == 2) = false := by rw [beq_eq_false_iff_ne]; exact hc
   clear hc
   generalize cls (bt s 0) = c at *
   go_wp2_with fail
   go_ret
   exact ⟨ret_bool HN.out.symm, rfl⟩
 ·have HN : Hid (nmB s = false) := by
   show _ = _
   rw [Bool.eq_false_iff]
   intro h
   exact h0 (nmB_iff.1 h).1
  have hne := is_empty (show s.size = 0 from by omega)
  go_enter Tryz.func120, Tryz.ntmps120
  go_wp2_with fail
  go_ret
  exact ⟨ret_bool HN.out.symm, rfl⟩

end Go.Proofs.YtgpaajolcpgeaaaGreatDoor

namespace Go.Proofs.YtgpaajolcpgeaaaGreatDoor
open Go.RowKit Go.Shelf

end Go.Proofs.YtgpaajolcpgeaaaGreatDoor

namespace Go.Proofs.YtgpaajolcpgeaaaGreatDoor
open Go.RowKit Go.Shelf

/-- what Tokens answers -/
def TokRes (s : ByteArray) (xs : List TM) (x : Int) (p : Nat) : Prop := (x = 0 ∧ p = 0 ∧ Lxs s (xs.map TM.d) 0 0) ∨ (x ≠ 0 ∧ xs = [] ∧ ∃ ts, Lxs s ts x p)
theorem lx_len {s : ByteArray} {a : Nat} {ts : List TD} {e : Int} {p : Nat} (h : Lx s a ts e p) : ts.length ≤ s.size - a := by
 induction ts generalizing a with
 | nil => exact Nat.zero_le _
 | cons t ts ih =>
  obtain ⟨k, h, hk, hw, hr⟩ := h.cons
  replace ih := ih hr
  have h1 := wd_size hw hk
  have h2 := hw.2.1
  have h3 := h.1
  rw [List.length_cons]
  omega
theorem tokens_u (s : ByteArray) (w : World) (hs : s.size ≤ 1099511627776) (hS : Sgn w) :
  Calls Tryz.prog 36 #[.string s] w fun e w' => ∃ (xs : List TM) (va : Option Addr) (vn vc : Nat) (x : Int) (p : Nat), TokRes s xs x p ∧ e = .returned (.tuple #[.slice va vn vc, .agg #[.int .i64 x, .int .i64 p]]) ∧ w'.ownsRow w.heap.size 119 5 (.slice va vn vc) xs.length (xs.flatMap V5) ∧ (∀ x ∈ xs, Mg w w' x) ∧ SpZ w' tokZ (.slice va vn vc) ∧ Below w.heap.size w w' := by
 refine (tokens_any s w hs hS).mono ?_
 rintro e w1 (⟨xs, v, hx, rfl, hrow, hmg, hz, hb⟩ | ⟨ts, x, p, hx, hx0, rfl, hb⟩)
 ·obtain ⟨a, m, c, rfl⟩ := own_slice hrow
  exact ⟨xs, a, m, c, 0, 0, .inl ⟨rfl, rfl, hx⟩, rfl, hrow, hmg, hz, hb⟩
 ·exact ⟨[], none, 0, 0, x, p, .inr ⟨hx0, rfl, ts, hx⟩, rfl, World.ownsRow_nil _ _ _ _, fun x hx => (by cases hx), spz_nil _ _, hb⟩
end Go.Proofs.YtgpaajolcpgeaaaGreatDoor

namespace Go.Proofs.YtgpaajolcpgeaaaGreatDoor
open Go.RowKit
namespace Sx

/-- what a tree's cells hold -/
structure TC where
 k : Int
 nm : ByteArray
 na : Option Addr
 nn : Nat
 nc : Nat
 s : Bool
 a : Option Addr
 l : Nat
 c : Nat
 ka : Option Addr
 kn : Nat
 kc : Nat
def TC.enc (x : TC) : List Value := [.int .i64 x.k, .string x.nm, .slice x.na x.nn x.nc, .bool x.s, .slice x.a x.l x.c, .slice x.ka x.kn x.kc]
abbrev TC.val (x : TC) : Value := .agg #[.int .i64 x.k, .string x.nm, .slice x.na x.nn x.nc, .bool x.s, .slice x.a x.l x.c, .slice x.ka x.kn x.kc]
/-- all blocks of F are as they were -/
structure Kf (F : Nat → Prop) (w w' : World) : Prop where
 size : w.heap.size ≤ w'.heap.size
 block : ∀ b, F b → b < w.heap.size → w'.heap[b]? = w.heap[b]?
theorem Kf.refl (F : Nat → Prop) (w : World) : Kf F w w := ⟨Nat.le_refl _, fun _ _ _ => rfl⟩
theorem Kf.trans {F : Nat → Prop} {w w1 w2 : World} (h : Kf F w w1) (k : Kf F w1 w2) : Kf F w w2 :=
 ⟨Nat.le_trans h.size k.size, fun b hb hl => (k.block b hb (Nat.lt_of_lt_of_le hl h.size)).trans (h.block b hb hl)⟩
theorem Kf.of_below {F : Nat → Prop} {w w' : World} (h : Below w.heap.size w w') : Kf F w w' := ⟨h.size, fun b _ hl => h.block b hl⟩
theorem Kf.of_grown {F : Nat → Prop} {w w' : World} {m : Nat} (h : w.grownBy w' (some m)) (hF : ¬ F m) : Kf F w w' := ⟨h.size, fun b hb hl => h.block b hl fun e => hF (Option.some.inj e ▸ hb)⟩
theorem Kf.cell {F : Nat → Prop} {w w' : World} (h : Kf F w w') {b i : Nat} (hb : F b) (hl : b < w.heap.size) : w'.cell? ⟨b, i, none⟩ = w.cell? ⟨b, i, none⟩ := World.cell?_of_block (a := ⟨b, i, none⟩) (h.block b hb hl)
/-- where a slice lies that is not empty -/
def InS (F : Nat → Prop) (a : Option Addr) (n : Nat) : Prop := ∀ b off, a = some ⟨b, off, none⟩ → 0 < n → F b
theorem rd_kf {F : Nat → Prop} {w w' : World} {a : Option Addr} {l c : Nat} {xs : List Int} (h : Rd w a l c xs) (hF : InS F a l) (k : Kf F w w') : Rd w' a l c xs := by
 obtain ⟨h1, h2, h3, h4, h5⟩ := h
 refine ⟨h1, h2, h3, h4, ?_⟩
 rcases h5 with h5 | ⟨a0, e, h5 | ⟨b, off, e2, hb, h5⟩⟩
 ·exact .inl h5
 ·exact .inr ⟨a0, e, .inl h5⟩
 ·refine .inr ⟨a0, e, ?_⟩
  rcases Nat.eq_zero_or_pos l with h0 | h0
  ·exact .inl h0
  ·subst e2
   exact .inr ⟨b, off, rfl, Nat.lt_of_lt_of_le hb k.size, fun i hi => (k.cell (hF b off e h0) hb).trans (h5 i hi)⟩
/-- a row of texts -/
def NmL (F : Nat → Prop) (w : World) (na : Option Addr) (nn : Nat) (l : List ByteArray) : Prop :=
 l.length = nn ∧ (nn = 0 ∨ ∃ b off, na = some ⟨b, off, none⟩ ∧ F b ∧ b < w.heap.size ∧ ∀ i (h : i < l.length), w.cell? ⟨b, off + i, none⟩ = some (.string l[i]))
theorem NmL.kf {F : Nat → Prop} {w w' : World} {na : Option Addr} {nn : Nat} {l : List ByteArray} (h : NmL F w na nn l) (k : Kf F w w') : NmL F w' na nn l := by
 refine ⟨h.1, ?_⟩
 rcases h.2 with h2 | ⟨b, off, e, hb, hl, h2⟩
 ·exact .inl h2
 ·exact .inr ⟨b, off, e, hb, Nat.lt_of_lt_of_le hl k.size, fun i hi => (k.cell hb hl).trans (h2 i hi)⟩
theorem nmL_nil (F : Nat → Prop) (w : World) (a : Option Addr) : NmL F w a 0 [] := ⟨rfl, .inl rfl⟩
/-- a tree itself, but for its kids -/
structure RL (F : Nat → Prop) (w : World) (x : TC) (l : Lab) : Prop where
 k : l.k = x.k
 nm : l.nm = x.nm
 s : l.s = x.s
 nms : NmL F w x.na x.nn l.nms
 rd : Rd w x.a x.l x.c l.xs
 inr : InS F x.a x.l
theorem RL.kf {F : Nat → Prop} {w w' : World} {x : TC} {l : Lab} (h : RL F w x l) (k : Kf F w w') : RL F w' x l := { h with nms := h.nms.kf k, rd := rd_kf h.rd h.inr k }
/-- a block of cells that may be written -/
def Ub (w : World) (b : Nat) : Prop := ∃ cs ty, w.heap[b]? = some (.cells cs ty (0, 0))
theorem Ub.lt {w : World} {b : Nat} (h : Ub w b) : b < w.heap.size := by
 obtain ⟨cs, ty, h⟩ := h
 exact (Array.getElem?_eq_some_iff.1 h).1
theorem Ub.kf {F : Nat → Prop} {w w' : World} {b : Nat} (h : Ub w b) (k : Kf F w w') (hb : F b) : Ub w' b := by
 have hl := h.lt
 obtain ⟨cs, ty, h⟩ := h
 exact ⟨cs, ty, (k.block b hb hl).trans h⟩
/-- kids in a row of memory -/
def RK (F : Nat → Prop) (w : World) (R : TC → Tr → Prop) (ka : Option Addr) (kn : Nat) (ks : List Tr) : Prop :=
 ks.length = kn ∧ (kn = 0 ∨ ∃ b off, ka = some ⟨b, off, none⟩ ∧ F b ∧ Ub w b ∧ ∀ i (h : i < ks.length), ∃ y : TC, (∀ j, j < 6 → w.cell? ⟨b, off + i * 6 + j, none⟩ = y.enc[j]?) ∧ R y ks[i])
/-- a tree in memory, of so many levels at the most -/
def RT (F : Nat → Prop) (w : World) : Nat → TC → Tr → Prop
 | 0, _, _ => False
 | n + 1, x, t => ∃ l ks, t = nd l ks ∧ RL F w x l ∧ RK F w (RT F w n) x.ka x.kn ks
theorem RK.imp {F : Nat → Prop} {w w' : World} {R R' : TC → Tr → Prop} {ka : Option Addr} {kn : Nat} {ks : List Tr} (h : RK F w R ka kn ks) (k : Kf F w w') (hR : ∀ y t, t ∈ ks → R y t → R' y t) : RK F w' R' ka kn ks := by
 refine ⟨h.1, ?_⟩
 rcases h.2 with h2 | ⟨b, off, e, hb, hl, h2⟩
 ·exact .inl h2
 ·refine .inr ⟨b, off, e, hb, hl.kf k hb, fun i hi => ?_⟩
  obtain ⟨y, h3, h4⟩ := h2 i hi
  exact ⟨y, fun j hj => (k.cell hb hl.lt).trans (h3 j hj), hR _ _ (List.getElem_mem hi) h4⟩
theorem RT.kf {F : Nat → Prop} {w w' : World} (k : Kf F w w') (n : Nat) : ∀ {x : TC} {t : Tr}, RT F w n x t → RT F w' n x t := by
 induction n with
 | zero => exact fun h => h.elim
 | succ n ih =>
  rintro x t ⟨l, ks, h1, h2, h3⟩
  exact ⟨l, ks, h1, h2.kf k, h3.imp k fun _ _ _ h => ih h⟩
theorem RT.up {F : Nat → Prop} {w : World} (n : Nat) : ∀ {m : Nat} {x : TC} {t : Tr}, RT F w n x t → n ≤ m → RT F w m x t := by
 induction n with
 | zero => exact fun h _ => h.elim
 | succ n ih =>
  intro m x t h hm
  cases m with
  | zero => exact absurd hm (by omega)
  | succ m =>
   obtain ⟨l, ks, h1, h2, h3⟩ := h
   exact ⟨l, ks, h1, h2, h3.imp (Kf.refl _ _) fun _ _ _ h => ih h (by omega)⟩
/-- a tree in memory -/
def Rt (F : Nat → Prop) (w : World) (x : TC) (t : Tr) : Prop := ∃ n, RT F w n x t
theorem Rt.kf {F : Nat → Prop} {w w' : World} {x : TC} {t : Tr} (h : Rt F w x t) (k : Kf F w w') : Rt F w' x t := by
 obtain ⟨n, h⟩ := h
 exact ⟨n, RT.kf k n h⟩
/-- as many levels as do for all of a row -/
theorem rk_all {F : Nat → Prop} {w : World} {ka : Option Addr} {kn : Nat} {ks : List Tr} (h : RK F w (Rt F w) ka kn ks) : ∃ n, RK F w (RT F w n) ka kn ks := by
 rcases h.2 with h2 | ⟨b, off, e, hb, hl, h2⟩
 ·exact ⟨0, h.1, .inl h2⟩
 ·have h3 : ∀ m, m ≤ ks.length → ∃ n, ∀ i (h : i < ks.length), i < m → ∃ y : TC, (∀ j, j < 6 → w.cell? ⟨b, off + i * 6 + j, none⟩ = y.enc[j]?) ∧ RT F w n y ks[i] := by
   intro m
   induction m with
   | zero => exact fun _ => ⟨0, fun i _ hi => absurd hi (by omega)⟩
   | succ m ih =>
    intro hm
    obtain ⟨n, hn⟩ := ih (by omega)
    obtain ⟨y, hy, n', hn'⟩ := h2 m (by omega)
    refine ⟨max n n', fun i hi hi' => ?_⟩
    by_cases e : i = m
    ·subst e
     exact ⟨y, hy, RT.up _ hn' (by omega)⟩
    ·obtain ⟨y2, g1, g2⟩ := hn i hi (by omega)
     exact ⟨y2, g1, RT.up _ g2 (by omega)⟩
  obtain ⟨n, hn⟩ := h3 ks.length (Nat.le_refl _)
  exact ⟨n, h.1, .inr ⟨b, off, e, hb, hl, fun i hi => hn i hi hi⟩⟩
theorem rt_mk {F : Nat → Prop} {w : World} {x : TC} {l : Lab} {ks : List Tr} (h : RL F w x l) (hk : RK F w (Rt F w) x.ka x.kn ks) : Rt F w x (nd l ks) := by
 obtain ⟨n, hn⟩ := rk_all hk
 exact ⟨n + 1, l, ks, rfl, h, hn⟩
theorem rt_nd {F : Nat → Prop} {w : World} {x : TC} {l : Lab} {ks : List Tr} (h : Rt F w x (nd l ks)) : RL F w x l ∧ RK F w (Rt F w) x.ka x.kn ks := by
 obtain ⟨n, h⟩ := h
 cases n with
 | zero => exact h.elim
 | succ n =>
  obtain ⟨l', ks', e, h1, h2⟩ := h
  obtain ⟨rfl, rfl⟩ := nd_inj e
  exact ⟨h1, h2.imp (Kf.refl _ _) fun _ _ _ h => ⟨n, h⟩⟩
theorem rt_of {F : Nat → Prop} {w : World} {x : TC} {t : Tr} (h : Rt F w x t) : ∃ l ks, t = nd l ks := by
 obtain ⟨n, h⟩ := h
 cases n with
 | zero => exact h.elim
 | succ n =>
  obtain ⟨l, ks, e, _⟩ := h
  exact ⟨l, ks, e⟩
end Sx
end Go.Proofs.YtgpaajolcpgeaaaGreatDoor

namespace Go.Proofs.YtgpaajolcpgeaaaGreatDoor
open Go.RowKit Go.Shelf

theorem pfx1 {s : ByteArray} (h0 : 0 < s.size) (c : UInt8) : pfx s ⟨#[c]⟩ = (bt s 0 == c.toNat) := by
 rw [Bool.eq_iff_iff, pfx_iff, beq_iff_eq]
 constructor
 ·rintro ⟨_, h⟩
  exact h 0 (by show 0 < 1; decide)
 ·intro h
  refine ⟨by show 1 ≤ s.size; omega, fun i hi => ?_⟩
  obtain rfl : i = 0 := by have : i < 1 := hi; omega
  exact h
/-- which byte a sign of one byte may be -/
def sg1 (b : Nat) : Bool := b == 60 || b == 62 || b == 61 || b == 43 || b == 45 || b == 42 || b == 46 || b == 40 || b == 41
theorem sgOf_size {s : ByteArray} (h0 : 0 < s.size) : (sgOf s).size = if pfx s ⟨#[60, 61]⟩ || pfx s ⟨#[62, 61]⟩ || pfx s ⟨#[33, 61]⟩ then 2 else if sg1 (bt s 0) then 1 else 0 := by
 unfold sgOf signL
 cases h1 : pfx s ⟨#[60, 61]⟩
 case true => simp [List.find?, h1]; rfl
 cases h2 : pfx s ⟨#[62, 61]⟩
 case true => simp [List.find?, h1, h2]; rfl
 cases h3 : pfx s ⟨#[33, 61]⟩
 case true => simp [List.find?, h1, h2, h3]; rfl
 simp only [List.find?, h1, h2, h3, pfx1 h0, Bool.or_false, Bool.false_eq_true, if_false]
 unfold sg1
 generalize bt s 0 = b
 by_cases k0 : b = 60
 ·subst k0; rfl
 by_cases k1 : b = 62
 ·subst k1; rfl
 by_cases k2 : b = 61
 ·subst k2; rfl
 by_cases k3 : b = 43
 ·subst k3; rfl
 by_cases k4 : b = 45
 ·subst k4; rfl
 by_cases k5 : b = 42
 ·subst k5; rfl
 by_cases k6 : b = 46
 ·subst k6; rfl
 by_cases k7 : b = 40
 ·subst k7; rfl
 by_cases k8 : b = 41
 ·subst k8; rfl
 rw [beq_eq_false_iff_ne.2 k0, beq_eq_false_iff_ne.2 k1, beq_eq_false_iff_ne.2 k2, beq_eq_false_iff_ne.2 k3, beq_eq_false_iff_ne.2 k4, beq_eq_false_iff_ne.2 k5, beq_eq_false_iff_ne.2 k6, beq_eq_false_iff_ne.2 k7, beq_eq_false_iff_ne.2 k8]
 have e0 : (b == UInt8.toNat 60) = false := beq_eq_false_iff_ne.2 k0
 have e1 : (b == UInt8.toNat 62) = false := beq_eq_false_iff_ne.2 k1
 have e2 : (b == UInt8.toNat 61) = false := beq_eq_false_iff_ne.2 k2
 have e3 : (b == UInt8.toNat 43) = false := beq_eq_false_iff_ne.2 k3
 have e4 : (b == UInt8.toNat 45) = false := beq_eq_false_iff_ne.2 k4
 have e5 : (b == UInt8.toNat 42) = false := beq_eq_false_iff_ne.2 k5
 have e6 : (b == UInt8.toNat 46) = false := beq_eq_false_iff_ne.2 k6
 have e7 : (b == UInt8.toNat 40) = false := beq_eq_false_iff_ne.2 k7
 have e8 : (b == UInt8.toNat 41) = false := beq_eq_false_iff_ne.2 k8
 rw [e0, e1, e2, e3, e4, e5, e6, e7, e8]
 rfl
theorem pfx2_iff {s : ByteArray} {c d : UInt8} : pfx s ⟨#[c, d]⟩ = true ↔ 2 ≤ s.size ∧ bt s 0 = c.toNat ∧ bt s 1 = d.toNat := by
 rw [pfx_iff]
 constructor
 ·rintro ⟨h1, h2⟩
  exact ⟨h1, h2 0 (by show 0 < 2; decide), h2 1 (by show 1 < 2; decide)⟩
 ·rintro ⟨h1, h2, h3⟩
  refine ⟨h1, fun i hi => ?_⟩
  have hi' : i < 2 := hi
  rcases (show i = 0 ∨ i = 1 from by omega) with rfl | rfl
  ·exact h2
  ·exact h3
def twoB (s : ByteArray) : Bool := pfx s ⟨#[60, 61]⟩ || pfx s ⟨#[62, 61]⟩ || pfx s ⟨#[33, 61]⟩
theorem twoB_iff {s : ByteArray} : twoB s = true ↔ 2 ≤ s.size ∧ (bt s 0 = 60 ∨ bt s 0 = 62 ∨ bt s 0 = 33) ∧ bt s 1 = 61 := by
 unfold twoB
 rw [Bool.or_eq_true, Bool.or_eq_true, pfx2_iff, pfx2_iff, pfx2_iff]
 constructor
 ·rintro ((⟨h1, h2, h3⟩ | ⟨h1, h2, h3⟩) | ⟨h1, h2, h3⟩)
  ·exact ⟨h1, .inl h2, h3⟩
  ·exact ⟨h1, .inr (.inl h2), h3⟩
  ·exact ⟨h1, .inr (.inr h2), h3⟩
 ·rintro ⟨h1, h2 | h2 | h2, h3⟩
  ·exact .inl (.inl ⟨h1, h2, h3⟩)
  ·exact .inl (.inr ⟨h1, h2, h3⟩)
  ·exact .inr ⟨h1, h2, h3⟩

end Go.Proofs.YtgpaajolcpgeaaaGreatDoor

namespace Go.Proofs.YtgpaajolcpgeaaaGreatDoor
open Go.RowKit Go.Shelf

end Go.Proofs.YtgpaajolcpgeaaaGreatDoor
