/-
 Several texts in one: PR, PS, PU, PV, PW, PX, PY, PZ, O1, O2, O3, I4.
-/
import Derived.Test.YtgpaajolcpgeaaaGreatDoorSrd20
import Derived.Test.YtgpaajolcpgeaaaGreatDoorSrd16
namespace Go.Proofs.YtgpaajolcpgeaaaGreatDoor
open Go.RowKit
namespace Sx

/-- a list of kids as a key -/
def SpK (F : Nat → Prop) (w : World) (v : Value) : Prop := ∃ a n, v = spV a n ∧ Un F w a
theorem chk_sp (em : Bool) (a : Option Addr) (n : Nat) (w : World) : (Instr.checkKey em 10000 89 (spV a n)).run Tryz.prog w = .ok () w := by
 have h : ∀ d : Nat, (Instr.checkKey em (d + 1 + 1) 89 (spV a n)).run Tryz.prog w = .ok () w := fun d => by
  simp [Instr.checkKey, run_underlying Tryz.underlying89, run_underlying Tryz.underlying3, run_underlying Tryz.underlying87, part_0, part_1, spV]
 exact h 9998
theorem eq_sp {F : Nat → Prop} {w : World} {a b : Option Addr} (n m : Nat) (ha : Un F w a) (hb : Un F w b) : (Op.equal 89 (spV a n) (spV b m)).run Tryz.prog w = .ok (decide (a = b) && ((n : Int) == (m : Int))) w := by
 have hst : (Tryz.prog.stoodInHeld 89) = false := by kernel_rfl
 have h : ∀ d : Nat, (Op.equalIn (d + 1 + 1) 89 (spV a n) (spV b m)).run Tryz.prog w = .ok (decide (a = b) && ((n : Int) == (m : Int))) w := fun d => by
  have h1 := eq_ptr ha hb d
  have h2 := eq_i n m w d
  rw [Op.equalIn]
  simp only [spV]
  simp [run_underlying Tryz.underlying89, hst, part_0, part_1, h1, h2]
  by_cases e1 : a = b
  ·by_cases e2 : (n : Int) = (m : Int)
   ·simp [e1, e2]
   ·simp [e1, e2]
  ·simp [e1]
 exact h 9998
theorem ky_span (F : Nat → Prop) (w : World) : Ky 89 (SpK F w) w := ky_wide (fun x es => run_findKey_eq w (by rw [Tryz.underlying89]) x es) (by
  rintro v em ⟨a, n, rfl, -⟩
  exact chk_sp em a n w) (by
  rintro v u ⟨a, n, rfl, ha⟩ ⟨b, m, rfl, hb⟩
  refine ⟨_, eq_sp n m ha hb, ?_⟩
  simp [spV]) (by
  rintro v ⟨a, n, rfl, -⟩
  have h : ∀ d : Nat, Instr.sameBits (d + 1) (spV a n) (spV a n) = true := fun d => by simp [Instr.sameBits, spV]
  exact h 9999)
theorem Un.kept {F : Nat → Prop} {w w' : World} {a : Option Addr} (h : Un F w a) (hb : ∀ b, F b → Ub w b → w'.heap[b]? = w.heap[b]?) : Un F w' a := by
 rcases h with h | ⟨b, off, e, hF, h⟩
 ·exact .inl h
 ·have h2 := hb b hF h
  obtain ⟨cs, ty, h⟩ := h
  exact .inr ⟨b, off, e, hF, cs, ty, h2.trans h⟩
theorem SpK.kept {F : Nat → Prop} {w w' : World} {v : Value} (h : SpK F w v) (hb : ∀ b, F b → Ub w b → w'.heap[b]? = w.heap[b]?) : SpK F w' v := by
 obtain ⟨a, n, e, h⟩ := h
 exact ⟨a, n, e, h.kept hb⟩
theorem ub_not_map {V : Value → Prop} {w : World} {m : Nat} {E : List (Value × Value)} (h : Mp V w m E) {b : Nat} (hb : Ub w b) : b ≠ m := by
 rintro rfl
 obtain ⟨cs, ty, hb⟩ := hb
 obtain ⟨es, clock, h, -⟩ := h.b
 rw [h] at hb
 cases hb
/-- the spans that were met -/
abbrev Met (F : Nat → Prop) (w : World) (m : Nat) (E : List (Value × Value)) : Prop := Mp (SpK F w) w m E
theorem Met.kf {F : Nat → Prop} {w w' : World} {m : Nat} {E : List (Value × Value)} (h : Met F w m E) (hm : w'.heap[m]? = w.heap[m]?) (k : Kf F w w') : Met F w' m E := (Mp.kept h hm).imp fun _ hv => hv.kept fun b hb hu => k.block b hb hu.lt
theorem Met.below {F : Nat → Prop} {w w' : World} {m : Nat} {E : List (Value × Value)} (h : Met F w m E) (k : Below w.heap.size w w') : Met F w' m E := Met.kf h (k.block m h.lt) (Kf.of_below k)
/-- a store into the map itself -/
theorem Met.put {F : Nat → Prop} {w : World} {m : Nat} {E : List (Value × Value)} (h : Met F w m E) {t e : TypeId} (ht : Tryz.prog.underlying t = some (.map 89 e)) {x : Value} (hx : SpK F w x) (v : Value) :
  ∃ w' E', (Instr.mapUpdate t (.map (some m)) x v).run Tryz.prog w = .ok () w' ∧ PutE x v E E' ∧ Met F w' m E' ∧ w.grownBy w' (some m) := by
 obtain ⟨w', E', h1, h2, h3, h4⟩ := Mp.put h (ky_span F w) ht hx v
 exact ⟨w', E', h1, h2, h3.imp fun v hv => hv.kept fun b _ hu => h4.block b hu.lt fun e => ub_not_map h hu (Option.some.inj e), h4⟩
set_option maxRecDepth 100000 in
set_option maxHeartbeats 1600000 in
theorem spanOf_n (w : World) (ka : Option Addr) (kn kc : Nat) (hk : kn = 0 ∨ ∃ b off, ka = some ⟨b, off, none⟩) :
  Calls Tryz.prog 51 #[.slice ka kn kc] w fun en w' => en = .returned (spV (if kn = 0 then none else ka) kn) ∧ Below w.heap.size w w' := by
 have b0 := below_alloc w (.cells #[.pointer none, .int .i64 0] 89)
 have hn := heap_alloc_new w (.cells #[.pointer none, .int .i64 0] 89)
 have c0 := cell_of_row _ w.heap.size 0 _ _ (0, 0) hn
 have c1 := cell_of_row _ w.heap.size 1 _ _ (0, 0) hn
 have f0 := frozen_of_row _ w.heap.size 0 _ _ hn
 have f1 := frozen_of_row _ w.heap.size 1 _ _ hn
 go_enter Tryz.func51, Tryz.ntmps51
 rcases Nat.eq_zero_or_pos kn with rfl | h0
 ·go_wp2
  exact bodyPost_ret (results_cell_row rfl _ _ w.heap.size 89 _ (0, 0) _ rfl hn Tryz.underlying89 rfl (by kernel_rfl)) rfl ⟨rfl, b0⟩
 ·obtain ⟨b, off, rfl⟩ := hk.resolve_left (by omega)
  have hz : ((kn : Int) == 0) = false := by simp; omega
  have hi : (0 : Int) < (kn : Int) := by omega
  go_wp2
  exact bodyPost_ret (results_cell_row rfl _ _ w.heap.size 89 _ (0, 0) _ rfl (heap_alloc_new w _) Tryz.underlying89 rfl (by kernel_rfl)) rfl ⟨rfl, below_alloc w _⟩
theorem len_map {t k e ty : TypeId} {w : World} {b : Nat} {es : Array MapEntry} {clock : Nat} (ht : Tryz.prog.underlying t = some (.map k e)) (hb : w.heap[b]? = some (.map es clock)) : (Builtin.len_ #[t] ty #[.map (some b)]).run Tryz.prog w = .ok (.int .i64 es.size) w := by
 simp [Builtin.len_, run_underlying ht, MapKept.run_getObj_map hb, goInt]
/-- what meet answers: was the list met for the first time? -/
def MeR (F : Nat → Prop) (w : World) (m : Nat) (E : List (Value × Value)) (ka : Option Addr) (kn : Nat) (en : Ending) (w' : World) : Prop :=
 w.grownBy w' (some m) ∧ ((kn = 0 ∧ en = .returned (.bool false) ∧ Met F w' m E) ∨ (0 < kn ∧ ∃ E', Met F w' m E' ∧ E'.map Prod.fst = E.map Prod.fst ∧ spV ka kn ∈ E.map Prod.fst ∧ en = .returned (.bool false)) ∨ (0 < kn ∧ Met F w' m (E ++ [(spV ka kn, .agg #[])]) ∧ en = .returned (.bool true)))
set_option maxRecDepth 100000 in
set_option maxHeartbeats 1600000 in
theorem meet_n {F : Nat → Prop} {w : World} {m : Nat} {E : List (Value × Value)} (h : Met F w m E) {ka : Option Addr} {kn kc : Nat} (hk : kn = 0 ∨ ∃ b off, ka = some ⟨b, off, none⟩ ∧ F b ∧ Ub w b) :
  Calls Tryz.prog 80 #[.map (some m), .slice ka kn kc] w fun en w' => MeR F w m E ka kn en w' := by
 go_enter Tryz.func80, Tryz.ntmps80
 rcases Nat.eq_zero_or_pos kn with rfl | h0
 ·go_wp2
  exact bodyPost_ret (results_tmp rfl _ _ _) rfl ⟨gb_of (Below.refl _ _), .inl ⟨rfl, rfl, h⟩⟩
 ·obtain ⟨b, off, rfl, hbF, hb⟩ := hk.resolve_left (by omega)
  have hz : ((kn : Int) == 0) = false := by simp; omega
  have hsp := hide (spanOf_n w (some ⟨b, off, none⟩) kn kc (.inr ⟨b, off, rfl⟩))
  rw [if_neg (show ¬ kn = 0 by omega)] at hsp
  obtain ⟨es, clock, hm, hl⟩ := h.len
  replace h := hide h
  have hlen := len_map (ty := 3) Tryz.underlying134 hm
  go_wp2_with fail
  refine hsp.out.mono ?_
  rintro en w1 ⟨rfl, k1⟩
  obtain ⟨w2, E2, hrun, hput, h2, g2⟩ := (h.out.below k1).put Tryz.underlying134 (x := spV (some ⟨b, off, none⟩) kn) ⟨_, _, rfl, .inr ⟨b, off, rfl, hbF, by obtain ⟨cs, ty, hb⟩ := hb; exact ⟨cs, ty, (k1.block b (lt_of_block hb)).trans hb⟩⟩⟩ (.agg #[])
  obtain ⟨es2, clock2, hm2, hl2⟩ := h2.len
  have hlen2 := len_map (ty := 3) Tryz.underlying134 hm2
  have hg := hide (gbb (gb_of k1) g2)
  rw [hl] at hlen
  rw [hl2] at hlen2
  replace h2 := hide h2
  replace hput := hide hput
  rcases hput.out with ⟨hp1, rfl⟩ | ⟨E1, v0, E3, hp1, rfl⟩
  ·have hgt : decide (E.length < (E ++ [(spV (some ⟨b, off, none⟩) kn, Value.agg #[])]).length) = true := by simp
   generalize (E ++ [(spV (some ⟨b, off, none⟩) kn, Value.agg #[])]).length = q2 at hlen2 hgt
   generalize E.length = q at hlen hgt
   go_wp2
   exact bodyPost_ret (results_tmp rfl _ _ _) rfl ⟨hg.out, .inr (.inr ⟨h0, h2.out, rfl⟩)⟩
  ·have hgt : decide (E.length < (E1 ++ (spV (some ⟨b, off, none⟩) kn, Value.agg #[]) :: E3).length) = false := by rw [hp1]; simp
   generalize (E1 ++ (spV (some ⟨b, off, none⟩) kn, Value.agg #[]) :: E3).length = q2 at hlen2 hgt
   generalize E.length = q at hlen hgt
   go_wp2
   exact bodyPost_ret (results_tmp rfl _ _ _) rfl ⟨hg.out, .inr (.inl ⟨h0, _, h2.out, by rw [hp1]; simp, by rw [hp1]; simp, rfl⟩)⟩
end Sx
end Go.Proofs.YtgpaajolcpgeaaaGreatDoor

namespace Go.Proofs.YtgpaajolcpgeaaaGreatDoor
open Go.RowKit
namespace Sx

/-- a slice -/
structure SlT where
 ka : Option Addr
 kn : Nat
 kc : Nat
abbrev SlT.val (s : SlT) : Value := .slice s.ka s.kn s.kc
abbrev An : Nat → Prop := fun _ => True
/-- a list of trees in memory -/
abbrev KL (F : Nat → Prop) (w : World) (s : SlT) (L : List Tr) : Prop := RK F w (Rt F w) s.ka s.kn L
theorem KL.kf {F : Nat → Prop} {w w' : World} {s : SlT} {L : List Tr} (h : KL F w s L) (k : Kf F w w') : KL F w' s L := h.imp k fun _ _ _ h => h.kf k
theorem KL.imp {F F' : Nat → Prop} {w : World} {s : SlT} {L : List Tr} (h : KL F w s L) (hF : ∀ b, F b → F' b) : KL F' w s L :=
 ⟨h.1, h.2.imp id fun ⟨b, off, e, hb, hu, h2⟩ => ⟨b, off, e, hF b hb, hu, fun i hi => by
  obtain ⟨y, h3, h4⟩ := h2 i hi
  exact ⟨y, h3, h4.imp hF⟩⟩⟩
theorem KL.lo {F : Nat → Prop} {w : World} {s : SlT} {L : List Tr} (h : KL F w s L) : KL (fun b => b < w.heap.size) w s L :=
 ⟨h.1, h.2.imp id fun ⟨b, off, e, hb, hu, h2⟩ => ⟨b, off, e, hu.lt, hu, fun i hi => by
  obtain ⟨y, h3, h4⟩ := h2 i hi
  exact ⟨y, h3, (rt_in h4).imp fun b hb => hb.2⟩⟩⟩
/-- lists of trees, slice by slice -/
def Prs (F : Nat → Prop) (w : World) (q : List SlT) (LL : List (List Tr)) : Prop := q.length = LL.length ∧ ∀ (i : Nat) (s : SlT) (L : List Tr), q[i]? = some s → LL[i]? = some L → KL F w s L
theorem Prs.kf {F : Nat → Prop} {w w' : World} {q : List SlT} {LL : List (List Tr)} (h : Prs F w q LL) (k : Kf F w w') : Prs F w' q LL := ⟨h.1, fun i s L h1 h2 => (h.2 i s L h1 h2).kf k⟩
theorem Prs.imp {F F' : Nat → Prop} {w : World} {q : List SlT} {LL : List (List Tr)} (h : Prs F w q LL) (hF : ∀ b, F b → F' b) : Prs F' w q LL := ⟨h.1, fun i s L h1 h2 => (h.2 i s L h1 h2).imp hF⟩
theorem prs_nil (F : Nat → Prop) (w : World) : Prs F w [] [] := ⟨rfl, fun i s L h => by simp at h⟩
theorem Prs.snoc {F : Nat → Prop} {w : World} {q : List SlT} {LL : List (List Tr)} {s : SlT} {L : List Tr} (h : Prs F w q LL) (hx : KL F w s L) : Prs F w (q ++ [s]) (LL ++ [L]) := by
 refine ⟨by simp [h.1], fun i y u h1 h2 => ?_⟩
 by_cases hi : i < q.length
 ·rw [List.getElem?_append_left hi] at h1
  rw [List.getElem?_append_left (by rw [← h.1]; exact hi)] at h2
  exact h.2 i y u h1 h2
 ·rw [List.getElem?_append_right (by omega)] at h1
  rw [List.getElem?_append_right (by have := h.1; omega), ← h.1] at h2
  match hj : i - q.length with
  | 0 =>
   rw [hj] at h1 h2
   cases h1
   cases h2
   exact hx
  | k + 1 =>
   rw [hj] at h1
   simp at h1
/-- a row of lists of trees in memory -/
def LvM (w : World) (v : Value) (LL : List (List Tr)) : Prop :=
 ∃ q : List SlT, Prs An w q LL ∧ ∃ la lc, v = .slice la q.length lc ∧ (q.length = 0 ∨ ∃ g off, la = some ⟨g, off, none⟩ ∧ g < w.heap.size ∧ ∀ i s, q[i]? = some s → w.cell? ⟨g, off + i, none⟩ = some s.val)
theorem infoSl : (Tryz.prog.info? 26).map (fun i => (i.zero, i.size, i.bytes)) = some (some (.slice none 0 0), 1, 24) := by kernel_rfl
/-- append of a list to a row of one's own -/
theorem appSl {w : World} {ops : Array Oper} {rest : List Oper} {o : Oper} {a : Act} {Q : Exit → Act → World → Prop} (hgd : o.guard = none) (s x : Operand) (ho : o.op = .call { callee := .builtin .append, args := #[s, x], argTypes := #[94, 94] }) (base : Nat) (v : Value) (n : Nat) (l : List SlT) (hs : a.eval s = v) (hown : w.ownsRow base 26 1 v n (l.map SlT.val))
  (t : SlT) (g : Nat) (hx : a.eval x = .slice (some ⟨g, 0, none⟩) 1 1) (hc : w.cell? ⟨g, 0, none⟩ = some t.val) (h63 : n + 1 ≤ 1099511627776) (hbase : base ≤ w.heap.size)
  (h : ∀ v' w', w'.ownsRow base 26 1 v' (n + 1) ((l ++ [t]).map SlT.val) → w.grownBy w' v.ownBlock → (v'.ownBlock = v.ownBlock ∨ v'.ownBlock = some w.heap.size) → wpList Tryz.prog ops Q rest (a.put o.dst v') w') : wpList Tryz.prog ops Q (o :: rest) a w := by
 obtain ⟨i0, hi, hz0, hz1, hz2⟩ := info_parts infoSl
 refine wpList_append_own_at w hgd s x 94 ho base 26 i0 _ 1 24 Tryz.underlying94 hi hz0 hz1 hz2 rfl (by decide) v n (l.map SlT.val) hs hown ⟨g, 0, none⟩ 1 1 [t.val] hx rfl (fun j u hu => ?_) (fun u hu => by obtain rfl := List.mem_singleton.1 hu; rfl) (by unfold maxLen; omega) (by omega) hbase ?_
 ·match j, hu with
  | 0, hu =>
   cases hu
   exact hc
 ·intro v' w' h1 h2 _ h4
  refine h v' w' ?_ h2 h4
  rw [List.map_append, List.map_singleton]
  exact h1
theorem own_sl {w : World} {base n : Nat} {v : Value} {q : List SlT} (h : w.ownsRow base 26 1 v n (q.map SlT.val)) : q.length = n ∧ ∃ a c, v = .slice a n c ∧ (n = 0 ∨ ∃ g, a = some ⟨g, 0, none⟩ ∧ base ≤ g ∧ Ub w g ∧ ∀ i s, q[i]? = some s → w.cell? ⟨g, 0 + i, none⟩ = some s.val) := by
 have hn : q.length = n := by have := h.1; rw [List.length_map] at this; omega
 refine ⟨hn, ?_⟩
 rcases h.2 with ⟨rfl, rfl⟩ | ⟨g, cap, cur, rfl, hb, hg, hc, hm, hs, ht⟩
 ·exact ⟨none, 0, rfl, .inl rfl⟩
 ·refine ⟨_, cap, rfl, .inr ⟨g, rfl, hb, ⟨_, _, hg⟩, fun i s hi => ?_⟩⟩
  rw [cell_of_row w g (0 + i) _ _ (0, 0) hg, Nat.zero_add]
  have : cur.toList[i]? = some s.val := by
   have h2 : (cur.toList.take (n * 1))[i]? = some s.val := by
    rw [ht, List.getElem?_map, hi]
    rfl
   have hil : i < q.length := (List.getElem?_eq_some_iff.1 hi).1
   rw [List.getElem?_take, if_pos (by omega)] at h2
   exact h2
  simpa using this
theorem LvM.of_own {F : Nat → Prop} {w : World} {base : Nat} {v : Value} {q : List SlT} {LL : List (List Tr)} (h : w.ownsRow base 26 1 v q.length (q.map SlT.val)) (hp : Prs F w q LL) : LvM w v LL := by
 obtain ⟨-, a, c, e, h2⟩ := own_sl h
 exact ⟨q, hp.imp (fun _ _ => trivial), a, c, e, h2.imp id fun ⟨g, e, _, hg, hc⟩ => ⟨g, 0, e, hg.lt, hc⟩⟩
theorem own_not_map {V : Value → Prop} {w : World} {m : Nat} {E : List (Value × Value)} (hm : Mp V w m E) {base n sz : Nat} {e : TypeId} {v : Value} {l : List Value} (h : w.ownsRow base e sz v n l) : v.ownBlock ≠ some m := by
 intro e2
 rcases h.2 with ⟨rfl, rfl⟩ | ⟨g, cap, cur, rfl, hb, hg, _⟩
 ·cases e2
 ·have : g = m := Option.some.inj e2
  subst this
  obtain ⟨es, clock, h, -⟩ := hm.b
  rw [h] at hg
  cases hg
/-- what has been made of these trees: the next level's lists -/
structure BlS (w : World) (m : Nat) (v : Value) (us : List Tr) (wr : World) (q : List SlT) (LL : List (List Tr)) (E : List (Value × Value)) : Prop where
 own : wr.ownsRow w.heap.size 26 1 v q.length (q.map SlT.val)
 nx : Nx us LL
 pr : Prs (fun b => b < w.heap.size) wr q LL
 met : Met (fun b => b < w.heap.size) wr m E
 key : E.map Prod.fst = q.map fun s => spV s.ka s.kn
 ne : ∀ L ∈ LL, L ≠ []
 bl : Below w.heap.size w wr
 mb : w.heap.size ≤ m
abbrev BlX (w : World) (m : Nat) (v : Value) (us : List Tr) (wr : World) : Prop := ∃ q LL E, BlS w m v us wr q LL E
theorem BlS.below {w wr w' : World} {m : Nat} {v : Value} {us : List Tr} {q : List SlT} {LL : List (List Tr)} {E : List (Value × Value)} (h : BlS w m v us wr q LL E) (k : Below wr.heap.size wr w') : BlS w m v us w' q LL E :=
 { h with own := h.own.kept (gb_of (m := w'.heap.size) k) (by
   rcases Option.eq_none_or_eq_some v.ownBlock with e | ⟨b, e⟩
   ·exact .inl e
   ·refine .inr fun e2 => ?_
    have := (h.own.lt b e).2
    have := k.size
    rw [e] at e2
    cases e2
    omega), pr := h.pr.kf (Kf.of_below k), met := h.met.below k, bl := h.bl.trans (k.mono h.bl.size) }
theorem kf_map {w wr w' : World} {m : Nat} (hm : w.heap.size ≤ m) (g : wr.grownBy w' (some m)) : Kf (fun b => b < w.heap.size) wr w' := Kf.of_grown g (by omega)
theorem own_map {V : Value → Prop} {w w' : World} {m : Nat} {E : List (Value × Value)} (hm : Mp V w m E) (g : w.grownBy w' (some m)) {base n sz : Nat} {e : TypeId} {v : Value} {l : List Value} (h : w.ownsRow base e sz v n l) : w'.ownsRow base e sz v n l := h.kept g (.inr (own_not_map hm h))
/-- a tree whose list was met, or that has none -/
theorem BlS.skip {w wr w' : World} {m : Nat} {v : Value} {us : List Tr} {q : List SlT} {LL : List (List Tr)} {E E' : List (Value × Value)} (h : BlS w m v us wr q LL E) {x : TC} {u : Tr} (hx : Rt An wr x u) (g : wr.grownBy w' (some m)) (h1 : Met (fun b => b < w.heap.size) w' m E') (h2 : E'.map Prod.fst = E.map Prod.fst) (h3 : x.kn = 0 ∨ spV x.ka x.kn ∈ E.map Prod.fst) : BlX w m v (us ++ [u]) w' := by
 refine ⟨q, LL, E', { own := own_map h.met g h.own, nx := h.nx.skip ?_, pr := h.pr.kf (kf_map h.mb g), met := h1, key := h2.trans h.key, ne := h.ne, bl := below_gb h.bl g h.mb, mb := h.mb }⟩
 obtain ⟨l, ks, rfl⟩ := rt_of hx
 obtain ⟨-, hk⟩ := rt_nd hx
 rw [ksO_nd]
 rcases h3 with h3 | h3
 ·exact .inl (List.length_eq_zero_iff.1 (hk.1.trans h3))
 ·rw [h.key] at h3
  obtain ⟨s, hs, e⟩ := List.mem_map.1 h3
  obtain ⟨i, hi, rfl⟩ := List.getElem_of_mem hs
  have hi2 : i < LL.length := by rw [← h.pr.1]; exact hi
  have hk2 := h.pr.2 i _ _ (List.getElem?_eq_getElem hi) (List.getElem?_eq_getElem hi2)
  simp only [spV, Value.agg.injEq, Array.mk.injEq, List.cons.injEq, Value.pointer.injEq, Value.int.injEq, true_and, and_true] at e
  have e2 : (q[i]).kn = x.kn := by omega
  unfold KL at hk2
  rw [e.1, e2] at hk2
  right
  rw [rk_only hk hk2]
  exact List.getElem_mem hi2
/-- a tree whose list is a new one -/
theorem BlS.put {w wr w' w2 : World} {m : Nat} {v v2 : Value} {us : List Tr} {q : List SlT} {LL : List (List Tr)} {E : List (Value × Value)} (h : BlS w m v us wr q LL E) {x : TC} {u : Tr} (hx : Rt (fun b => b < w.heap.size) wr x u) (g : wr.grownBy w' (some m)) (h1 : Met (fun b => b < w.heap.size) w' m (E ++ [(spV x.ka x.kn, .agg #[])])) (h3 : 0 < x.kn)
  (h4 : w2.ownsRow w.heap.size 26 1 v2 (q.length + 1) ((q ++ [(⟨x.ka, x.kn, x.kc⟩ : SlT)]).map SlT.val)) (g2 : w'.grownBy w2 v.ownBlock) : BlX w m v2 (us ++ [u]) w2 := by
 obtain ⟨l, ks, rfl⟩ := rt_of hx
 obtain ⟨-, hk⟩ := rt_nd hx
 have hk2 : KL (fun b => b < w.heap.size) w' (⟨x.ka, x.kn, x.kc⟩ : SlT) ks := KL.kf (s := (⟨x.ka, x.kn, x.kc⟩ : SlT)) hk (kf_map h.mb g)
 have hob : ∀ b, v.ownBlock = some b → w.heap.size ≤ b := fun b e => (h.own.lt b e).1
 have kf2 : Kf (fun b => b < w.heap.size) w' w2 := ⟨g2.size, fun b hb hl => g2.block b hl fun e => by have := hob b e.symm; omega⟩
 have hme : v.ownBlock ≠ some m := own_not_map h.met h.own
 refine ⟨q ++ [⟨x.ka, x.kn, x.kc⟩], LL ++ [ks], E ++ [(spV x.ka x.kn, .agg #[])], { own := by rw [List.length_append]; exact h4, nx := h.nx.put (u := nd l ks) ?_, pr := ((h.pr.kf (kf_map h.mb g)).snoc hk2).kf kf2, met := h1.kf (g2.block m h1.lt fun e => hme e.symm) kf2, key := by simp [h.key], ne := ?_, bl := ?_, mb := h.mb }⟩
 ·rw [ksO_nd]
  intro e
  have := hk.1
  rw [e] at this
  simp at this
  omega
 ·intro L hL
  rcases List.mem_append.1 hL with hL | hL
  ·exact h.ne L hL
  ·obtain rfl := List.mem_singleton.1 hL
   intro e
   have := hk.1
   rw [e] at this
   simp at this
   omega
 ·have b1 := below_gb h.bl g h.mb
  exact ⟨g2.os.trans b1.os, g2.tape.trans b1.tape, g2.output.trans b1.output, Nat.le_trans b1.size g2.size, fun i hi => (g2.block i (Nat.lt_of_lt_of_le hi b1.size) (fun e => by have := hob i e.symm; omega)).trans (b1.block i hi)⟩
end Sx
end Go.Proofs.YtgpaajolcpgeaaaGreatDoor

namespace Go.Proofs.YtgpaajolcpgeaaaGreatDoor
open Go.RowKit
namespace Sx

/-- what below answers: the next level -/
def BeR (w : World) (LL : List (List Tr)) (en : Ending) (w' : World) : Prop := Below w.heap.size w w' ∧ ∃ v' LL', en = .returned v' ∧ LvM w' v' LL' ∧ Nx LL.flatten LL'
theorem mk_map (w : World) : (Instr.makeMap 134 none).run Tryz.prog w = .ok (.map (some w.heap.size)) (w.alloc (.map #[] 0)) := by
 simp [Instr.makeMap]
theorem take_one {α : Type} {L : List α} {i : Nat} {x : α} (h : L[i]? = some x) : L.take (i + 1) = L.take i ++ [x] := by
 obtain ⟨hl, rfl⟩ := List.getElem?_eq_some_iff.1 h
 exact List.take_succ_eq_append_getElem hl
theorem take_flat {LL : List (List Tr)} {i : Nat} {L : List Tr} (h : LL[i]? = some L) : (LL.take (i + 1)).flatten = (LL.take i).flatten ++ L := by
 rw [take_one h, List.flatten_append]
 simp
set_option maxRecDepth 100000 in
set_option maxHeartbeats 3200000 in
theorem below_n {w : World} {v : Value} {LL : List (List Tr)} (h : LvM w v LL) (hB : LL.flatten.length ≤ 1073741824) (hB2 : LL.length ≤ 1073741824) : Calls Tryz.prog 68 #[v] w fun en w' => BeR w LL en w' := by
 obtain ⟨q, hp, la, lc, rfl, hrow⟩ := h
 have hmk := mk_map w
 have hs0 : BlX w w.heap.size (.slice none 0 0) [] (w.alloc (.map #[] 0)) := ⟨[], [], [], { own := ⟨rfl, .inl ⟨rfl, rfl⟩⟩, nx := nx_nil, pr := prs_nil _ _, met := mp_new _ w, key := rfl, ne := by simp, bl := below_alloc w _, mb := Nat.le_refl _ }⟩
 replace hs0 := hide hs0
 obtain ⟨n, hn⟩ : ∃ n, q.length = n := ⟨_, rfl⟩
 rw [hn] at hrow ⊢
 clear hmk
 have hmk := mk_map w
 replace hn := hide hn
 have hql : Hid (n = LL.length) := hide (hn.out.symm.trans hp.1)
 have hnB : n ≤ 1073741824 := by rw [hql.out]; exact hB2
 clear hB2
 replace hp := hide hp
 go_enter Tryz.func68, Tryz.ntmps68
 go_wp2_with fail
 go_loopw [4, 12] (fun vv i wr => ∃ t : Nat, t ≤ n ∧ i = .int .i64 t ∧ Hid (BlX w w.heap.size vv (LL.take t).flatten wr)) (fun _ i _ => n - (intOf i).toNat)
 case atStart => exact ⟨0, Nat.zero_le _, rfl, by simpa using hs0⟩
 case round =>
  clear hmk hs0
  obtain ⟨t, ht, rfl, hb⟩ := hrel
  by_cases htn : t < n
  ·have hlt : decide ((t : Int) < (n : Int)) = true := by
    rw [decide_eq_true_eq]
    omega
   obtain ⟨g, off, rfl, hg, hc⟩ := hrow.resolve_left (by omega)
   have hbl : Below w.heap.size w wr := by
    obtain ⟨q, LL, E, h⟩ := hb.out
    exact h.bl
   obtain ⟨⟨ka, kn, kc⟩, hs⟩ : ∃ s, q[t]? = some s := ⟨_, List.getElem?_eq_getElem (by rw [hn.out]; exact htn)⟩
   obtain ⟨L, hL⟩ : ∃ L, LL[t]? = some L := ⟨_, List.getElem?_eq_getElem (by rw [← hql.out]; exact htn)⟩
   have ct : wr.cell? ⟨g, off + t, none⟩ = some (.slice ka kn kc) := (World.cell?_of_block (a := ⟨g, off + t, none⟩) (hbl.block g hg)).trans (hc t _ hs)
   have hkl := hide (hp.out.2 t _ _ hs hL)
   have hfl := hide (take_flat hL)
   have hsub : (LL.take t).flatten.length + L.length ≤ 1073741824 := by
    have h1 := congrArg List.length hfl.out
    rw [List.length_append] at h1
    rw [← h1]
    refine Nat.le_trans ?_ hB
    rw [← List.take_append_drop (t + 1) LL, List.flatten_append, List.length_append, List.take_append_drop]
    exact Nat.le_add_right _ _
   have hLn : L.length = kn := hkl.out.1
   rw [hLn] at hsub
   replace hLn := hide hLn
   clear hc hs hL hbl
   have hi1 : (t : Int) < (n : Int) := by omega
   have hwr : IntKind.i64.wrap ((t : Int) + 1) = ((t + 1 : Nat) : Int) := by
    rw [IntKind.wrap_i64]
    omega
   go_wp2_with fail
   go_loopw [4, 18] (fun vv i wr => ∃ j : Nat, j ≤ kn ∧ i = .int .i64 j ∧ Hid (BlX w w.heap.size vv ((LL.take t).flatten ++ L.take j) wr)) (fun _ i _ => kn - (intOf i).toNat)
   case atStart => exact ⟨0, Nat.zero_le _, rfl, by simpa using hb⟩
   case round =>
    clear hb ct
    obtain ⟨j, hj, rfl, hb⟩ := hrel
    by_cases hjn : j < kn
    ·have hlt2 : decide ((j : Int) < (kn : Int)) = true := by
      rw [decide_eq_true_eq]
      omega
     obtain ⟨b2, off2, rfl, -, hub, hc⟩ := hkl.out.2.resolve_left (show ¬ kn = 0 by omega)
     have hjL : j < L.length := by rw [hLn.out]; exact hjn
     obtain ⟨x, hcx, hx⟩ := hc j hjL
     have hone := hide (take_one (List.getElem?_eq_getElem hjL))
     obtain ⟨u, hu⟩ : ∃ u, L[j] = u := ⟨_, rfl⟩
     rw [hu] at hx hone
     obtain ⟨q3, LL3, E3, hs3⟩ := hb.out
     have hbl := hs3.bl
     have hcw : ∀ i, i < 6 → wr.cell? ⟨b2, off2 + j * 6 + i, none⟩ = x.enc[i]? := fun i hi => (World.cell?_of_block (a := ⟨b2, off2 + j * 6 + i, none⟩) (hbl.block b2 hub.lt)).trans (hcx i hi)
     have e0 : wr.cell? ⟨b2, off2 + j * 6, none⟩ = some (.int .i64 x.k) := hcw 0 (by decide)
     have e1 : wr.cell? ⟨b2, off2 + j * 6 + 1, none⟩ = some (.string x.nm) := hcw 1 (by decide)
     have e2 : wr.cell? ⟨b2, off2 + j * 6 + 2, none⟩ = some (.slice x.na x.nn x.nc) := hcw 2 (by decide)
     have e3 : wr.cell? ⟨b2, off2 + j * 6 + 3, none⟩ = some (.bool x.s) := hcw 3 (by decide)
     have e4 : wr.cell? ⟨b2, off2 + j * 6 + 4, none⟩ = some (.slice x.a x.l x.c) := hcw 4 (by decide)
     have e5 : wr.cell? ⟨b2, off2 + j * 6 + 5, none⟩ = some (.slice x.ka x.kn x.kc) := hcw 5 (by decide)
     have hi2 : (j : Int) < (kn : Int) := by omega
     have hx1 : Rt (fun b => b < w.heap.size) wr x u := ((rt_in hx).imp fun b hb => hb.2).kf ⟨hbl.size, fun b hb _ => hbl.block b hb⟩
     have b3 := below_alloc wr (.cells #[.int .i64 x.k, .string x.nm, .slice x.na x.nn x.nc, .bool x.s, .slice x.a x.l x.c, .slice x.ka x.kn x.kc] 28)
     have y3 := vb_new wr x
     have hs4 := hs3.below b3
     have hx4 := rt_below hx1 b3
     have hkx : x.kn = 0 ∨ ∃ b off, x.ka = some ⟨b, off, none⟩ ∧ b < w.heap.size ∧ Ub (wr.alloc (.cells #[.int .i64 x.k, .string x.nm, .slice x.na x.nn x.nc, .bool x.s, .slice x.a x.l x.c, .slice x.ka x.kn x.kc] 28)) b := by
      obtain ⟨l0, ks0, rfl⟩ := rt_of hx4
      exact (rt_nd hx4).2.2.imp id fun ⟨b, off, e, hF, hu, _⟩ => ⟨b, off, e, hF, hu⟩
     have hme := hide (meet_n (kc := x.kc) hs4.met hkx)
     have y5 := y3.c5
     have hwm : wr.heap.size ≠ w.heap.size := by
      have := hs3.met.lt
      omega
     have hwj : IntKind.i64.wrap ((j : Int) + 1) = ((j + 1 : Nat) : Int) := by
      rw [IntKind.wrap_i64]
      omega
     have hq3 : q3.length ≤ 1073741824 := by
      have h1 := hs3.nx.cnt 0
      rw [Nat.zero_add, cnL1, List.length_append, List.length_take] at h1
      rw [hs3.pr.1]
      omega
     replace hs4 := hide hs4
     replace hx4 := hide hx4
     replace y3 := hide y3
     have hwz : Hid (w.heap.size ≤ wr.heap.size) := hide hbl.size
     clear hcx hcw hs3 hb hbl hc hu hub hx hx1 b3 hkx
     go_wp2_with fail
     clear e0 e1 e2 e3 e4 e5
     generalize wr.alloc (.cells #[.int .i64 x.k, .string x.nm, .slice x.na x.nn x.nc, .bool x.s, .slice x.a x.l x.c, .slice x.ka x.kn x.kc] 28) = wa at *
     clear y5
     refine hme.out.mono ?_
     rintro en w1 ⟨g1, ⟨h0, rfl, hm1⟩ | ⟨h0, E1, hm1, hE1, hin, rfl⟩ | ⟨h0, hm1, rfl⟩⟩
     ·have hnew := hide (hs4.out.skip (hx4.out.imp fun _ _ => trivial) g1 hm1 rfl (.inl h0))
      clear hme hs4 hx4 g1 hm1 y3
      go_wp2
      go_roundw
      case measure => simp [intOf]; omega
      case rel => exact ⟨j + 1, by omega, rfl, by rw [hone.out, ← List.append_assoc]; exact hnew⟩
     ·have hnew := hide (hs4.out.skip (hx4.out.imp fun _ _ => trivial) g1 hm1 hE1 (.inr hin))
      clear hme hs4 hx4 g1 hm1 y3 hin hE1
      go_wp2
      go_roundw
      case measure => simp [intOf]; omega
      case rel => exact ⟨j + 1, by omega, rfl, by rw [hone.out, ← List.append_assoc]; exact hnew⟩
     ·have c5 : w1.cell? ⟨wr.heap.size, 5, none⟩ = some (.slice x.ka x.kn x.kc) := (y3.out.grown g1 hwm).c5
      have ho1 := (own_map hs4.out.met g1 hs4.out.own).alloc (.cells #[.slice x.ka x.kn x.kc] 26)
      have b5 := below_alloc w1 (.cells #[.slice x.ka x.kn x.kc] 26)
      have hc5 : (w1.alloc (.cells #[.slice x.ka x.kn x.kc] 26)).cell? ⟨w1.heap.size, 0, none⟩ = some (SlT.val ⟨x.ka, x.kn, x.kc⟩) := cell_of_row _ w1.heap.size 0 _ _ (0, 0) (heap_alloc_new w1 _)
      have hm5 := Met.below hm1 b5
      have hz5 : w.heap.size ≤ (w1.alloc (.cells #[.slice x.ka x.kn x.kc] 26)).heap.size := Nat.le_trans (Nat.le_trans hwz.out (by have := y3.out.lt; omega)) (Nat.le_trans g1.size b5.size)
      have g15 := hide (gbb g1 (gb_of b5))
      replace ho1 := hide ho1
      replace hc5 := hide hc5
      replace hm5 := hide hm5
      clear hme b5 g1 hm1 y3
      go_wp2_with (refine appSl rfl _ _ rfl w.heap.size _ q3.length q3 rfl ho1.out ⟨x.ka, x.kn, x.kc⟩ w1.heap.size rfl hc5.out (by omega) hz5 ?_)
      intro v' w6 ho6 hg6 hb6
      replace ho6 : w6.ownsRow w.heap.size 26 1 v' (q3.length + 1) ((q3 ++ [(⟨x.ka, x.kn, x.kc⟩ : SlT)]).map SlT.val) := by rw [List.map_append]; exact ho6
      have hnew := hide (hs4.out.put hx4.out g15.out hm5.out h0 ho6 hg6)
      obtain ⟨-, av6, cv6, rfl, -⟩ := own_sl ho6
      clear ho6 hg6 hb6 ho1 hc5 hm5 hs4 hx4 g15 c5
      go_wp2
      go_roundw
      case measure => simp [intOf]; omega
      case rel => exact ⟨j + 1, by omega, rfl, by rw [hone.out, ← List.append_assoc]; exact hnew⟩
    ·obtain rfl : j = kn := by omega
     have hlt2 : decide ((j : Int) < (j : Int)) = false := by simp
     have hnew := hide hb.out
     rw [show L.take j = L by rw [← hLn.out]; exact List.take_length, ← hfl.out] at hnew
     go_wp2
     go_roundw
     case measure => simp [intOf]; omega
     case rel => exact ⟨t + 1, by omega, rfl, hnew⟩
  ·obtain rfl : t = n := by omega
   have hlt : decide ((t : Int) < (t : Int)) = false := by simp
   obtain ⟨q3, LL3, E3, hs3⟩ := hb.out
   have hfin : Hid (BeR w LL (.returned u4) wr) := hide ⟨hs3.bl, u4, LL3, rfl, LvM.of_own hs3.own hs3.pr, by
    have := hs3.nx
    rw [show LL.take t = LL by rw [hql.out]; exact List.take_length] at this
    exact this⟩
   clear hb hs3
   go_wp2
   refine bodyPost_ret (results_tmp rfl _ _ _) rfl ?_
   exact hfin.out
end Sx
end Go.Proofs.YtgpaajolcpgeaaaGreatDoor

namespace Go.Proofs.YtgpaajolcpgeaaaGreatDoor
open Go.RowKit
namespace Sx

theorem flat_len {LL : List (List Tr)} (h : ∀ L ∈ LL, L ≠ []) : LL.length ≤ LL.flatten.length := by
 induction LL with
 | nil => simp
 | cons L LL ih =>
  have h1 := ih fun L hL => h L (by simp [hL])
  have h2 : 0 < L.length := List.length_pos_iff.2 (h L (by simp))
  simp only [List.flatten_cons, List.length_append, List.length_cons]
  omega
theorem Lvl.small {n B : Nat} {t : Tr} {LL : List (List Tr)} (h : Lvl n t LL) (hB : Few4 B t) : LL.flatten.length ≤ B ∧ LL.length ≤ B := by
 have h1 := h.cnt 1
 have h2 := hB (1 + n)
 have h3 := flat_len h.ne
 rw [cnL1] at h1
 omega
/-- a tree's first level in memory -/
theorem lvm_one {w : World} {x : TC} {t : Tr} (h : Rt An w x t) : LvM ((w.alloc (.cells #[.int .i64 x.k, .string x.nm, .slice x.na x.nn x.nc, .bool x.s, .slice x.a x.l x.c, .slice x.ka x.kn x.kc] 28)).alloc (.cells #[.slice (some ⟨w.heap.size, 0, none⟩) 1 1] 26)) (.slice (some ⟨(w.alloc (.cells #[.int .i64 x.k, .string x.nm, .slice x.na x.nn x.nc, .bool x.s, .slice x.a x.l x.c, .slice x.ka x.kn x.kc] 28)).heap.size, 0, none⟩) 1 1) [[t]] := by
 have b1 := below_alloc w (.cells #[.int .i64 x.k, .string x.nm, .slice x.na x.nn x.nc, .bool x.s, .slice x.a x.l x.c, .slice x.ka x.kn x.kc] 28)
 have hb : (w.alloc (.cells #[.int .i64 x.k, .string x.nm, .slice x.na x.nn x.nc, .bool x.s, .slice x.a x.l x.c, .slice x.ka x.kn x.kc] 28)).heap[w.heap.size]? = some (.cells x.enc.toArray 28 (0, 0)) := heap_alloc_new w _
 have h1 := rk_one (F := An) hb trivial (rt_below h b1)
 generalize w.alloc (.cells #[.int .i64 x.k, .string x.nm, .slice x.na x.nn x.nc, .bool x.s, .slice x.a x.l x.c, .slice x.ka x.kn x.kc] 28) = wa at *
 have b2 := below_alloc wa (.cells #[.slice (some ⟨w.heap.size, 0, none⟩) 1 1] 26)
 have hc := cell_of_row _ wa.heap.size 0 _ _ (0, 0) (heap_alloc_new wa (.cells #[.slice (some ⟨w.heap.size, 0, none⟩) 1 1] 26))
 refine ⟨[⟨some ⟨w.heap.size, 0, none⟩, 1, 1⟩], (Prs.snoc (prs_nil _ _) (KL.kf (s := ⟨some ⟨w.heap.size, 0, none⟩, 1, 1⟩) h1 (Kf.of_below b2))), _, _, rfl, .inr ⟨wa.heap.size, 0, rfl, by simp, fun i s hi => ?_⟩⟩
 match i, hi with
 | 0, hi =>
  cases hi
  exact hc
/-- what isDeep answers -/
def DeR (w : World) (t : Tr) (en : Ending) (w' : World) : Prop := Below w.heap.size w w' ∧ ∃ b, en = .returned (.bool b) ∧ (b = true ↔ Dp 60 t)
set_option maxRecDepth 100000 in
set_option maxHeartbeats 3200000 in
theorem isDeep_n {w : World} {x : TC} {t : Tr} (hx : Rt An w x t) (hB : Few4 1073741824 t) : Calls Tryz.prog 38 #[x.val] w fun en w' => DeR w t en w' := by
 have b0 := below_alloc w (.cells #[.int .i64 x.k, .string x.nm, .slice x.na x.nn x.nc, .bool x.s, .slice x.a x.l x.c, .slice x.ka x.kn x.kc] 28)
 have y0 := vb_new w x
 have hx0 := rt_below hx b0
 have e0 := y0.c0
 have e1 := y0.c1
 have e2 := y0.c2
 have e3 := y0.c3
 have e4 := y0.c4
 have e5 := y0.c5
 have hl := hide (lvm_one hx0)
 have b2 := hide (below_alloc' (below_alloc' b0 (.cells #[.int .i64 x.k, .string x.nm, .slice x.na x.nn x.nc, .bool x.s, .slice x.a x.l x.c, .slice x.ka x.kn x.kc] 28)) (.cells #[.slice (some ⟨(w.alloc (.cells #[.int .i64 x.k, .string x.nm, .slice x.na x.nn x.nc, .bool x.s, .slice x.a x.l x.c, .slice x.ka x.kn x.kc] 28)).heap.size, 0, none⟩) 1 1] 26))
 replace hB := hide hB
 clear hx hx0 b0 y0
 go_enter Tryz.func38, Tryz.ntmps38
 go_wp2_with fail
 go_loopw [3, 7] (fun v i wr => ∃ (k : Nat) (LL : List (List Tr)), k ≤ 60 ∧ i = .int .i64 k ∧ Hid (LvM wr v LL) ∧ Hid (Lvl k t LL) ∧ Hid (Below w.heap.size w wr)) (fun _ i _ => 60 - (intOf i).toNat)
 case atStart => exact ⟨0, [[t]], by decide, rfl, by simpa using hl, hide (lvl_zero t), by simpa using b2⟩
 case round =>
  clear e0 e1 e2 e3 e4 e5 hl b2
  obtain ⟨k, LL, hk, rfl, hl, hv, hb⟩ := hrel
  by_cases hkn : k < 60
  ·have hlt : decide ((k : Int) < 60) = true := by
    rw [decide_eq_true_eq]
    omega
   have hwr : IntKind.i64.wrap ((k : Int) + 1) = ((k + 1 : Nat) : Int) := by
    rw [IntKind.wrap_i64]
    omega
   have hc := hide (below_n hl.out (hv.out.small hB.out).1 (hv.out.small hB.out).2)
   obtain ⟨q, -, la, lc, rfl, -⟩ := hl.out
   clear hl
   go_wp2_with fail
   refine hc.out.mono ?_
   rintro en w1 ⟨b1, v', LL', rfl, hl1, hx1⟩
   have hv1 := hide (hv.out.next hx1)
   have hb1 := hide (hb.out.trans (b1.mono hb.out.size))
   obtain ⟨q1, hp1, la1, lc1, rfl, hr1⟩ := hl1
   have hl1 : Hid (LvM w1 (.slice la1 q1.length lc1) LL') := hide ⟨q1, hp1, la1, lc1, rfl, hr1⟩
   clear hc hv hb hx1 b1 hp1 hr1
   go_wp2
   go_roundw
   case measure => simp [intOf]; omega
   case rel => exact ⟨k + 1, LL', by omega, rfl, hl1, hv1, hb1⟩
  ·obtain rfl : k = 60 := by omega
   have hlt : decide (((60 : Nat) : Int) < 60) = false := by decide
   obtain ⟨q, hp, la, lc, rfl, -⟩ := hl.out
   have hd : Hid (0 < q.length ↔ Dp 60 t) := hide (by
    rw [← hv.out.deep, hp.1]
    exact List.length_pos_iff)
   clear hl hp hv
   generalize q.length = n at *
   go_wp2
   refine bodyPost_ret (results_tmp rfl _ _ _) rfl ⟨hb.out, _, rfl, ?_⟩
   rw [decide_eq_true_iff]
   exact hd.out
end Sx
end Go.Proofs.YtgpaajolcpgeaaaGreatDoor

namespace Go.Proofs.YtgpaajolcpgeaaaGreatDoor
open Go.RowKit
namespace Sx

set_option maxRecDepth 100000 in
set_option maxHeartbeats 3200000 in
theorem read_good {w : World} {va : Option Addr} {vn vc e : Nat} {xs : List TM} {P : Nat → Prop} (hP : ∀ b, P b → b < w.heap.size) (hW : Ws P w xs va vn) (hO : Wo w) (hn : vn ≤ 1048576) (hsh : Sht xs) {n : Nat} {t : Tr} {ts : List TD} (hr : Gr e n 0 [] (rem xs 0) = some (.inr (t, ts))) :
  Calls Tryz.prog 37 #[.slice va vn vc, .int .i64 e] w fun en w' => RdR P w e xs en w' := by
 have hmf : ∀ (fn : Fn) (first cap : Array Value) (w : World), (Instr.makeFunc fn first cap).run Tryz.prog w = .ok (.func fn first cap) w := fun _ _ _ _ => rfl
 have b1 := below_alloc w (.cells #[.int .i64 0, .string ⟨#[]⟩, .slice none 0 0, .bool false, .slice none 0 0, .slice none 0 0] 28)
 have b2 := below_alloc' b1 (.cells #[.int .i64 0, .int .i64 0] 31)
 have b3 := below_alloc' b2 (.cells #[.slice va vn vc, .int .i64 0, .int .i64 e] 122)
 have y : VB _ w.heap.size tz := ((below_alloc _ (.cells #[.slice va vn vc, .int .i64 0, .int .i64 e] 122)).block w.heap.size (by simp; omega)).trans (((below_alloc _ (.cells #[.int .i64 0, .int .i64 0] 31)).block w.heap.size (by simp)).trans (vb_zero w))
 have z2 := heap_alloc_new (w.alloc (.cells #[.int .i64 0, .string ⟨#[]⟩, .slice none 0 0, .bool false, .slice none 0 0, .slice none 0 0] 28)) (.cells #[.int .i64 0, .int .i64 0] 31)
 rw [show (w.alloc (.cells #[.int .i64 0, .string ⟨#[]⟩, .slice none 0 0, .bool false, .slice none 0 0, .slice none 0 0] 28)).heap.size = w.heap.size + 1 by simp] at z2
 have z := ((below_alloc _ (.cells #[.slice va vn vc, .int .i64 0, .int .i64 e] 122)).block (w.heap.size + 1) (lt_of_block z2)).trans z2
 have hb := heap_alloc_new ((w.alloc (.cells #[.int .i64 0, .string ⟨#[]⟩, .slice none 0 0, .bool false, .slice none 0 0, .slice none 0 0] 28)).alloc (.cells #[.int .i64 0, .int .i64 0] 31)) (.cells #[.slice va vn vc, .int .i64 0, .int .i64 e] 122)
 rw [show ((w.alloc (.cells #[.int .i64 0, .string ⟨#[]⟩, .slice none 0 0, .bool false, .slice none 0 0, .slice none 0 0] 28)).alloc (.cells #[.int .i64 0, .int .i64 0] 31)).heap.size = w.heap.size + 1 + 1 by simp] at hb
 have hS : Rx.S ⟨w.heap.size + 1 + 1, P, va, vn, vc, e, xs⟩ _ 0 := ⟨hb, (hW.kf (Kf.of_below b3)).imp fun b h => ⟨Nat.lt_succ_of_lt (Nat.lt_succ_of_lt (hP b h)), h⟩, Nat.zero_le _, hn, fun h => absurd h.1 (Nat.lt_irrefl _), hO.below b3, fun h => absurd h (Nat.ne_of_lt (Nat.lt_succ_of_lt (Nat.lt_succ_of_lt hO.lt)))⟩
 have hc := hide (formula_n (X := ⟨w.heap.size + 1 + 1, P, va, vn, vc, e, xs⟩) hsh n _ 0 (.inr (t, ts)) hS hr)
 have hxn := hW.n
 have hsz := hS.lt
 replace hxn := hide hxn
 clear hS hb b1 b2 z2
 go_enter_defers Tryz.func37, Tryz.ntmps37
 go_wp2_with fail
 generalize hw3 : ((w.alloc (.cells #[.int .i64 0, .string ⟨#[]⟩, .slice none 0 0, .bool false, .slice none 0 0, .slice none 0 0] 28)).alloc (.cells #[.int .i64 0, .int .i64 0] 31)).alloc (.cells #[.slice va vn vc, .int .i64 0, .int .i64 e] 122) = w3 at *
 clear hw3
 refine hc.out.mono ?_
 rintro en w4 ⟨g4, x, p, rfl, hx, rfl, hS4⟩
 clear hc
 have y4 := y.grown g4 (by show w.heap.size ≠ w.heap.size + 1 + 1; omega)
 have z4 := (g4.block (w.heap.size + 1) (lt_of_block z) (by simp)).trans z
 have b4 := hide (below_gb b3 g4 (by show w.heap.size ≤ w.heap.size + 1 + 1; omega))
 have hs3 : w.heap.size + 1 + 1 < w3.heap.size := hsz
 clear y z b3 g4
 replace z4 := hide z4
 replace hS4 := hide hS4
 replace hx := hide hx
 replace hW := hide hW
 replace hO := hide hO
 replace hr := hide hr
 have y4h := hide y4
 have q0 := y4.c0
 have f0 := y4.f 0
 have q1 := y4.c1
 have f1 := y4.f 1
 have q2' := y4.c2
 have f2 := y4.f 2
 have q3 := y4.c3
 have f3 := y4.f 3
 have q4 := y4.c4
 have f4 := y4.f 4
 have q5 := y4.c5
 have f5 := y4.f 5
 clear y4
 iterate 4 (first | go_skip | go_guarded | go_step | go_upon | go_simp)
 clear q0 q1 q2' q3 q4 q5 f0 f1 f2 f3 f4 f5
 generalize hw5 : (((((w4.setCell ⟨w.heap.size, 0, none⟩ (.int .i64 x.k)).setCell ⟨w.heap.size, 1, none⟩ (.string x.nm)).setCell ⟨w.heap.size, 2, none⟩ (.slice x.na x.nn x.nc)).setCell ⟨w.heap.size, 3, none⟩ (.bool x.s)).setCell ⟨w.heap.size, 4, none⟩ (.slice x.a x.l x.c)).setCell ⟨w.heap.size, 5, none⟩ (.slice x.ka x.kn x.kc) = w5
 have ho := v_only w4 w.heap.size x
 have y5 := vb_set y4h.out x
 rw [show vSet w4 w.heap.size x = w5 from hw5] at ho y5
 clear hw5 y4h
 have z5 := (ho.block (w.heap.size + 1) (by omega)).trans z4.out
 have hS5 : Rx.S ⟨w.heap.size + 1 + 1, P, va, vn, vc, e, xs⟩ w5 p := { hS4.out with
  b := (ho.block _ (by show w.heap.size + 1 + 1 ≠ w.heap.size; omega)).trans hS4.out.b
  ws := hS4.out.ws.kf ⟨by rw [ho.size]; exact Nat.le_refl _, fun b hF _ => ho.block b (by have := hP b hF.2; omega)⟩
  wo := hS4.out.wo.kept (ho.block _ (by have := hO.out.lt; omega)) }
 have hx5 : Rt (fun b => P b ∨ w.heap.size + 1 < b) w5 x t := (hx.out.imp fun b hF => hF.imp (fun h => h.2) fun h => by omega).kf ⟨by rw [ho.size]; exact Nat.le_refl _, fun b hF _ => ho.block b (by rcases hF with h | h; (have := hP b h; omega); omega)⟩
 have b5 := hide (b4.out.trans (ho.below (Nat.le_refl _)))
 clear z4 hS4 hx b4 ho
 have c1 := hS5.c1
 have hpl := hS5.pl
 have hgu := hide (giveUp_n hS5)
 replace hS5 := hide hS5
 replace hx5 := hide hx5
 by_cases hp : p < xs.length
 ·have hlt : decide ((p : Int) < (vn : Int)) = true := by
   rw [decide_eq_true_eq, ← hxn.out]
   omega
  have hpv : p < vn := by
   rw [← hxn.out]
   exact hp
  have y5h := hide y5
  have z5h := hide z5
  clear y5 z5 hlt
  dsimp only at *
  go_wp2_with fail
  refine hgu.out.mono ?_
  rintro en w6 ⟨hpan, k6⟩
  unfold Pan at hpan
  subst hpan
  have y4 := y5h.out.below k6
  have z4 := (k6.block _ (lt_of_block z5h.out)).trans z5h.out
  generalize hcc : bad e (rem xs p) = c at *
  go_wp2
  refine leaves_cons (f := 65) (args := #[.pointer (some ⟨w.heap.size, 0, none⟩), .pointer (some ⟨w.heap.size + 1, 0, none⟩)]) (by simp) (by simp [go_sem]) ?_
  refine (caught_panic w.heap.size (w.heap.size + 1) x 0 0 c w6 y4 z4 (by omega)).mono ?_
  rintro en u' w7 ⟨rfl, rfl, w0, k0, rfl⟩
  have y5 := vb_set (y4.below k0) tz
  have z5 := ((v_only w0 w.heap.size tz).block (w.heap.size + 1) (by omega)).trans ((k0.block _ (lt_of_block z4)).trans z4)
  have z6 := heap_setCell_same _ (w.heap.size + 1) 1 _ 31 (.int .i64 c.2) (heap_setCell_same _ (w.heap.size + 1) 0 _ 31 (.int .i64 c.1) z5)
  have y6 : VB _ w.heap.size tz := (((Only.set (w.heap.size + 1) 0 _ (.int .i64 c.1)).trans (Only.set (w.heap.size + 1) 1 _ (.int .i64 c.2))).block w.heap.size (by omega)).trans y5
  simp only [settle]
  refine ⟨_, results_cc rfl _ _ w.heap.size (w.heap.size + 1) 28 31 _ _ (0, 0) (0, 0) _ _ rfl rfl y6 z6 Tryz.underlying28 Tryz.underlying31 rfl rfl (by kernel_rfl) (by kernel_rfl), ?_, .inr (t, rem xs p), n, hr.out, ?_⟩
  ·exact ((grow_step k0 (grow_step k6 b5.out)).trans ((v_only w0 w.heap.size tz).below (Nat.le_refl _))).trans (((Only.set (w.heap.size + 1) 0 _ _).trans (Only.set (w.heap.size + 1) 1 _ _)).below (by omega))
  ·rw [rem_cons hp] at hcc ⊢
   dsimp only
   rw [hcc]
   rfl
 ·have hpv : ¬ p < vn := by
   rw [← hxn.out]
   exact hp
  clear hgu
  have y5h := hide y5
  have z5h := hide z5
  have e0 := cell_of_row _ (w.heap.size + 1) 0 _ _ (0, 0) z5
  have e1 := cell_of_row _ (w.heap.size + 1) 1 _ _ (0, 0) z5
  have i0 := frozen_of_row _ (w.heap.size + 1) 0 _ _ z5
  have i1 := frozen_of_row _ (w.heap.size + 1) 1 _ _ z5
  have q0 := y5.c0
  have f0 := y5.f 0
  have q1 := y5.c1
  have f1 := y5.f 1
  have q2' := y5.c2
  have f2 := y5.f 2
  have q3 := y5.c3
  have f3 := y5.f 3
  have q4 := y5.c4
  have f4 := y5.f 4
  have q5 := y5.c5
  have f5 := y5.f 5
  clear y5 z5
  go_wp2
  refine leaves_cons (f := 65) (args := #[.pointer (some ⟨w.heap.size, 0, none⟩), .pointer (some ⟨w.heap.size + 1, 0, none⟩)]) (by simp) (by simp [go_sem]) ?_
  refine (caught_idle ⟨w.heap.size, 0, none⟩ ⟨w.heap.size + 1, 0, none⟩ _).mono ?_
  rintro en u' w7 ⟨rfl, rfl, rfl⟩
  have y6 := vb_set y5h.out x
  have z6 := ((v_only w5 w.heap.size x).block (w.heap.size + 1) (by omega)).trans z5h.out
  have z7 := heap_setCell_same _ (w.heap.size + 1) 1 _ 31 (.int .i64 0) (heap_setCell_same _ (w.heap.size + 1) 0 _ 31 (.int .i64 0) z6)
  have o7 := (Only.set (w.heap.size + 1) 0 (vSet w5 w.heap.size x) (.int .i64 0)).trans (Only.set (w.heap.size + 1) 1 _ (.int .i64 0))
  have y7 : VB _ w.heap.size x := (o7.block w.heap.size (by omega)).trans y6
  refine ⟨_, results_cc rfl _ _ w.heap.size (w.heap.size + 1) 28 31 _ _ (0, 0) (0, 0) _ _ rfl rfl y7 z7 Tryz.underlying28 Tryz.underlying31 rfl rfl (by kernel_rfl) (by kernel_rfl), ?_, .inr (t, rem xs p), n, hr.out, ?_⟩
  ·exact (b5.out.trans ((v_only w5 w.heap.size x).below (Nat.le_refl _))).trans (o7.below (by omega))
  ·rw [rem_nil (by omega)]
   have hx7 := hx5.out.kf (Kf.trans ⟨by rw [(v_only w5 w.heap.size x).size]; exact Nat.le_refl _, fun b hF _ => (v_only w5 w.heap.size x).block b (by rcases hF with h | h; (have := hP b h; omega); omega)⟩ ⟨by rw [o7.size]; exact Nat.le_refl _, fun b hF _ => o7.block b (by rcases hF with h | h; (have := hP b h; omega); omega)⟩)
   exact ⟨x, rfl, hx7.imp fun b hb => hb.imp id fun h => by omega⟩
/-- READ, WHOLE -/
theorem read_n {w : World} {va : Option Addr} {vn vc e : Nat} {xs : List TM} {P : Nat → Prop} (hP : ∀ b, P b → b < w.heap.size) (hW : Ws P w xs va vn) (hO : Wo w) (hn : vn ≤ 1048576) (hsh : Sht xs) :
  Calls Tryz.prog 37 #[.slice va vn vc, .int .i64 e] w fun en w' => RdR P w e xs en w' := by
 obtain ⟨r, n, hr⟩ := gr_ex e (rem xs 0)
 match r, hr with
 | .inl c, hr => exact read_bad hP hW hO hn hsh hr
 | .inr (t, ts), hr => exact read_good hP hW hO hn hsh hr
end Sx
end Go.Proofs.YtgpaajolcpgeaaaGreatDoor

namespace Go.Proofs.YtgpaajolcpgeaaaGreatDoor
open Go.RowKit
namespace Sx

theorem cnL_le {f g : Nat} (h : ∀ u, cntF f u ≤ cntF g u) (l : List Tr) : cnL f l ≤ cnL g l := by
 induction l with
 | nil => exact Nat.le_refl _
 | cons t l ih =>
  rw [cnL_cons, cnL_cons]
  have := h t
  omega
theorem cntF_mono (f : Nat) : ∀ t, cntF f t ≤ cntF (f + 1) t := by
 induction f with
 | zero => exact fun t => Nat.zero_le _
 | succ f ih =>
  intro t
  rw [cntF_succ, cntF_succ]
  have := cnL_le ih (ksO t)
  omega
theorem cnt_nd_le (f : Nat) (l : Lab) (ks : List Tr) : cntF f (nd l ks) ≤ 1 + cnL f ks := by
 cases f with
 | zero => exact Nat.zero_le _
 | succ f =>
  rw [cntF_succ, ksO_nd]
  have := cnL_le (cntF_mono f) ks
  omega
theorem th_inr {x : Option Res} {f : Tr → List TD → Option Res} {t : Tr} {q : List TD} (h : th x f = some (.inr (t, q))) : ∃ u r, x = some (.inr (u, r)) ∧ f u r = some (.inr (t, q)) := by
 rcases th_some h with ⟨c, _, e⟩ | ⟨u, r, e1, e2⟩
 ·cases e
 ·exact ⟨u, r, e1, e2⟩
theorem hd_len {ts : List TD} {s : ByteArray} (h : hd ts = s) (hs : s ≠ ⟨#[]⟩) : ts.tail.length + 1 = ts.length := by
 cases ts with
 | nil => exact absurd h.symm hs
 | cons x r => rfl
theorem amo_some {n : Nat} : ∀ {a : Nat} {s : ByteArray}, 3 ≤ a → a + n ≤ 23 → amo a n s ≠ 0 → s ≠ ⟨#[]⟩ := by
 induction n with
 | zero => exact fun _ _ h => absurd rfl h
 | succ n ih =>
  intro a s h3 hn h
  rw [amo_step] at h
  split at h
  ·rename_i e
   rw [e]
   exact wd_ne h3 (by omega)
  ·exact ih (by omega) (by omega) h
theorem hk_len {ts : List TD} {k : Int} (h : hk ts = k) (hs : k ≠ 0) : ts.tail.length + 1 = ts.length := by
 cases ts with
 | nil => exact absurd h.symm hs
 | cons x r => rfl
/-- what a row of so many costs more than its kids -/
def ext (acc : List Tr) : Nat := if acc.length ≤ 1 then 0 else 1
theorem row_cnt (f : Nat) (k : Int) {acc : List Tr} (h : acc ≠ []) : cntF f (row k acc) ≤ cnL f acc + ext acc := by
 match acc, h with
 | [t], _ => rw [cnL_one]; exact Nat.le_add_right _ _
 | t :: u :: l, _ =>
  have := cnt_nd_le f (lk k) (t :: u :: l)
  show cntF f (nd (lk k) (t :: u :: l)) ≤ _
  have e : ext (t :: u :: l) = 1 := by simp [ext]
  omega
theorem opn_ne : opn ≠ ⟨#[]⟩ := by decide
theorem dot_ne : dot ≠ ⟨#[]⟩ := by decide
theorem gr_cnt {e : Nat} (n : Nat) : ∀ {tag : Nat} {acc : List Tr} {ts : List TD} {t : Tr} {q : List TD}, Gr e n tag acc ts = some (.inr (t, q)) → (tag = 1 ∨ tag = 10 → acc.length = 1) → (tag = 4 ∨ tag = 6 → acc ≠ []) → ∀ f, cntF f t + q.length ≤ cnL f acc + ext acc + ts.length := by
 induction n with
 | zero => exact fun h => by cases h
 | succ n ih =>
  intro tag acc ts t q h ha hb f
  have ih0 : ∀ {tag : Nat} {ts : List TD} {t : Tr} {q : List TD}, Gr e n tag [] ts = some (.inr (t, q)) → (tag = 0 ∨ tag = 2 ∨ tag = 3 ∨ tag = 5 ∨ tag = 7 ∨ tag = 8 ∨ tag = 9 ∨ tag = 11) → cntF f t + q.length ≤ ts.length := fun h ht => by
   have := ih h (by omega) (by omega) f
   rw [cnL_nil] at this
   have e0 : ext [] = 0 := rfl
   omega
  have e1 : ∀ t : Tr, ext [t] = 0 := fun _ => rfl
  match tag with
  | 0 =>
   obtain ⟨u, r, h1, h2⟩ := th_inr h
   have := ih0 h1 (by omega)
   have h3 := ih h2 (fun _ => rfl) (by omega) f
   rw [cnL_one, e1] at h3
   omega
  | 1 =>
   simp only [Gr] at h
   split at h
   ·rename_i hc
    obtain ⟨u, r, h1, h2⟩ := th_inr h
    have := ih0 h1 (by omega)
    have h3 := ih h2 (fun _ => rfl) (by omega) f
    have h4 := cnt_nd_le f (lk 20) (acc ++ [u])
    rw [cnL_append, cnL_one] at h4
    rw [cnL_one, e1] at h3
    have := hd_len hc (wd_ne (by decide) (by decide))
    omega
   ·cases h
    have := row_cnt f 20 (acc := acc) (fun e => by rw [e] at ha; simp at ha)
    omega
  | 2 =>
   obtain ⟨u, r, h1, h2⟩ := th_inr h
   have := ih0 h1 (by omega)
   (try dsimp only at h2)
   split at h2
   ·rename_i hc
    obtain ⟨v, s, h3, h4⟩ := th_inr h2
    have := ih0 h3 (by omega)
    cases h4
    have h5 := cnt_nd_le f (lk 19) [u, v]
    rw [cnL_cons, cnL_one] at h5
    have := hd_len hc (wd_ne (by decide) (by decide))
    omega
   ·cases h2
    omega
  | 3 =>
   obtain ⟨u, r, h1, h2⟩ := th_inr h
   have := ih0 h1 (by omega)
   have h3 := ih h2 (by omega) (fun _ => by simp) f
   rw [cnL_one, e1] at h3
   omega
  | 4 =>
   simp only [Gr] at h
   split at h
   ·rename_i hc
    obtain ⟨u, r, h1, h2⟩ := th_inr h
    have := ih0 h1 (by omega)
    have h3 := ih h2 (by omega) (fun _ => by simp) f
    rw [cnL_append, cnL_one] at h3
    have h4 : ext (acc ++ [u]) ≤ 1 := by unfold ext; split <;> omega
    have := hd_len hc (wd_ne (by decide) (by decide))
    omega
   ·cases h
    have := row_cnt f 18 (hb (by omega))
    omega
  | 5 =>
   obtain ⟨u, r, h1, h2⟩ := th_inr h
   have := ih0 h1 (by omega)
   have h3 := ih h2 (by omega) (fun _ => by simp) f
   rw [cnL_one, e1] at h3
   omega
  | 6 =>
   simp only [Gr] at h
   split at h
   ·rename_i hc
    obtain ⟨u, r, h1, h2⟩ := th_inr h
    have := ih0 h1 (by omega)
    have h3 := ih h2 (by omega) (fun _ => by simp) f
    rw [cnL_append, cnL_one] at h3
    have h4 : ext (acc ++ [u]) ≤ 1 := by unfold ext; split <;> omega
    have := hd_len hc (wd_ne (by decide) (by decide))
    omega
   ·cases h
    have := row_cnt f 17 (hb (by omega))
    omega
  | 7 =>
   simp only [Gr] at h
   split at h
   ·rename_i hc
    obtain ⟨u, r, h1, h2⟩ := th_inr h
    have := ih0 h1 (by omega)
    cases h2
    have h5 := cnt_nd_le f (lk 16) [u]
    rw [cnL_one] at h5
    have := hd_len hc (wd_ne (by decide) (by decide))
    omega
   ·split at h
    ·rename_i hc
     split at h
     ·cases h
     ·obtain ⟨u, r, h1, h2⟩ := th_inr h
      have := ih0 h1 (by omega)
      cases h2
      have h5 := cnt_nd_le f ⟨amo 21 2 (hd ts), ⟨#[]⟩, (nms ts.tail).1, false, []⟩ [u]
      rw [cnL_one] at h5
      have := hd_len rfl (amo_some (by decide) (by decide) hc)
      have := nms_len ts.tail
      have := tail_le (nms ts.tail).2
      omega
    ·have := ih0 h (by omega)
     omega
  | 8 =>
   rw [gr8] at h
   split at h
   ·rename_i hc
    cases h
    have h5 := cnt_nd_le f (lk (amo 7 2 (hd ts))) []
    rw [cnL_nil] at h5
    have := hd_len rfl (amo_some (by decide) (by decide) hc)
    omega
   ·split at h
    ·rename_i hc
     obtain ⟨u, r, h1, h2⟩ := th_inr h
     have := ih0 h1 (by omega)
     (try dsimp only at h2)
     split at h2
     ·cases h2
      have := hd_len hc opn_ne
      have := tail_le r
      omega
     ·cases h2
    ·split at h
     ·cases ts with
      | nil => cases h
      | cons x r =>
       dsimp only at h
       split at h
       ·cases h
       ·obtain ⟨u, r', h1, h2⟩ := th_inr h
        have := ih0 h1 (by omega)
        cases h2
        have h5 := cnt_nd_le f ⟨15, ⟨#[]⟩, [], false, cl x.num⟩ [u]
        rw [cnL_one] at h5
        have := tail_le r
        simp only [List.tail_cons, List.length_cons] at *
        omega
     ·obtain ⟨u, r, h1, h2⟩ := th_inr h
      have := ih0 h1 (by omega)
      (try dsimp only at h2)
      split at h2
      ·cases h2
      ·rename_i hc
       obtain ⟨v, s, h3, h4⟩ := th_inr h2
       have := ih0 h3 (by omega)
       cases h4
       have h5 := cnt_nd_le f (lk (amo 9 6 (hd r))) [u, v]
       rw [cnL_cons, cnL_one] at h5
       have := hd_len rfl (amo_some (by decide) (by decide) hc)
       omega
  | 9 =>
   obtain ⟨u, r, h1, h2⟩ := th_inr h
   have := ih0 h1 (by omega)
   have h3 := ih h2 (fun _ => rfl) (by omega) f
   rw [cnL_one, e1] at h3
   omega
  | 10 =>
   simp only [Gr] at h
   split at h
   ·rename_i hc
    obtain ⟨u, r, h1, h2⟩ := th_inr h
    have := ih0 h1 (by omega)
    have h3 := ih h2 (fun _ => rfl) (by omega) f
    have h4 := cnt_nd_le f (lk (amo 4 2 (hd ts))) (acc ++ [u])
    rw [cnL_append, cnL_one] at h4
    rw [cnL_one, e1] at h3
    have := hd_len rfl (amo_some (by decide) (by decide) hc)
    omega
   ·cases h
    have := row_cnt f 4 (acc := acc) (fun e => by rw [e] at ha; simp at ha)
    omega
  | k + 11 =>
   rw [gr11] at h
   split at h
   ·rename_i hc
    obtain ⟨u, r, h1, h2⟩ := th_inr h
    have := ih0 h1 (by omega)
    cases h2
    have h5 := cnt_nd_le f (lk 3) [u]
    rw [cnL_one] at h5
    have := hd_len hc (wd_ne (by decide) (by decide))
    omega
   ·split at h
    ·rename_i hc
     obtain ⟨u, r, h1, h2⟩ := th_inr h
     have := ih0 h1 (by omega)
     (try dsimp only at h2)
     split at h2
     ·cases h2
      have := hd_len hc opn_ne
      have := tail_le r
      omega
     ·cases h2
    ·split at h
     ·cases ts with
      | nil => cases h
      | cons x r =>
       dsimp only at h
       split at h
       ·obtain ⟨u, r', h1, h2⟩ := th_inr h
        have := ih0 h1 (by omega)
        cases h2
        have h5 := cnt_nd_le f ⟨6, ⟨#[]⟩, [], false, cl x.num⟩ [u]
        rw [cnL_one] at h5
        have := tail_le r
        simp only [List.length_cons] at *
        omega
       ·cases h
        have h5 := cnt_nd_le f ⟨1, ⟨#[]⟩, [], false, cl x.num⟩ []
        rw [cnL_nil] at h5
        simp only [List.length_cons] at *
        omega
     ·split at h
      ·rename_i hc
       cases h
       have h5 := cnt_nd_le f ⟨2, hd ts, [], false, []⟩ []
       rw [cnL_nil] at h5
       have := hk_len hc (by decide)
       omega
      ·cases h
/-- a formula that was read is no greater than its text -/
theorem gr_few {e n : Nat} {ts q : List TD} {t : Tr} (h : Gr e n 0 [] ts = some (.inr (t, q))) : Few4 ts.length t := fun f => by
 have := gr_cnt n h (by omega) (by omega) f
 rw [cnL_nil] at this
 have e0 : ext [] = 0 := rfl
 omega
end Sx
end Go.Proofs.YtgpaajolcpgeaaaGreatDoor

namespace Go.Proofs.YtgpaajolcpgeaaaGreatDoor
open Go.RowKit
namespace Sx

theorem bad_ne (e : Nat) (ts : List TD) : (bad e ts).1 ≠ 0 := by
 cases ts with
 | nil => show (42 : Int) ≠ 0; decide
 | cons x r => show (41 : Int) ≠ 0; decide
theorem th_err {x : Option Res} {f : Tr → List TD → Option Res} {c : Int × Nat} (h : th x f = some (.inl c)) (h1 : ∀ c, x = some (.inl c) → c.1 ≠ 0) (h2 : ∀ u r, f u r = some (.inl c) → c.1 ≠ 0) : c.1 ≠ 0 := by
 rcases th_some h with ⟨c', e1, e2⟩ | ⟨u, r, e1, e2⟩
 ·cases e2
  exact h1 _ e1
 ·exact h2 u r e2
theorem gr_err {e : Nat} (n : Nat) : ∀ {tag : Nat} {acc : List Tr} {ts : List TD} {c : Int × Nat}, Gr e n tag acc ts = some (.inl c) → c.1 ≠ 0 := by
 induction n with
 | zero => exact fun h => by cases h
 | succ n ih =>
  intro tag acc ts c h
  match tag with
  | 0 => exact th_err h (fun _ => ih) fun _ _ => ih
  | 1 =>
   simp only [Gr] at h
   split at h
   ·exact th_err h (fun _ => ih) fun _ _ => ih
   ·cases h
  | 2 =>
   refine th_err h (fun _ => ih) fun u r h => ?_
   split at h
   ·exact th_err h (fun _ => ih) fun _ _ h => by cases h
   ·cases h
  | 3 => exact th_err h (fun _ => ih) fun _ _ => ih
  | 4 =>
   simp only [Gr] at h
   split at h
   ·exact th_err h (fun _ => ih) fun _ _ => ih
   ·cases h
  | 5 => exact th_err h (fun _ => ih) fun _ _ => ih
  | 6 =>
   simp only [Gr] at h
   split at h
   ·exact th_err h (fun _ => ih) fun _ _ => ih
   ·cases h
  | 7 =>
   simp only [Gr] at h
   split at h
   ·exact th_err h (fun _ => ih) fun _ _ h => by cases h
   ·split at h
    ·split at h
     ·cases h
      exact bad_ne _ _
     ·exact th_err h (fun _ => ih) fun _ _ h => by cases h
    ·exact ih h
  | 8 =>
   rw [gr8] at h
   split at h
   ·cases h
   ·split at h
    ·refine th_err h (fun _ => ih) fun _ _ h => ?_
     split at h
     ·cases h
     ·cases h
      exact bad_ne _ _
    ·split at h
     ·cases ts with
      | nil => cases h
      | cons x r =>
       dsimp only at h
       split at h
       ·cases h
        show (11 : Int) ≠ 0
        decide
       ·exact th_err h (fun _ => ih) fun _ _ h => by cases h
     ·refine th_err h (fun _ => ih) fun u r h => ?_
      split at h
      ·cases h
       exact bad_ne _ _
      ·exact th_err h (fun _ => ih) fun _ _ h => by cases h
  | 9 => exact th_err h (fun _ => ih) fun _ _ => ih
  | 10 =>
   simp only [Gr] at h
   split at h
   ·exact th_err h (fun _ => ih) fun _ _ => ih
   ·cases h
  | k + 11 =>
   rw [gr11] at h
   split at h
   ·exact th_err h (fun _ => ih) fun _ _ h => by cases h
   ·split at h
    ·refine th_err h (fun _ => ih) fun _ _ h => ?_
     split at h
     ·cases h
     ·cases h
      exact bad_ne _ _
    ·split at h
     ·cases ts with
      | nil => cases h
      | cons x r =>
       dsimp only at h
       split at h
       ·exact th_err h (fun _ => ih) fun _ _ h => by cases h
       ·cases h
     ·split at h
      ·cases h
      ·cases h
       exact bad_ne _ _
/-- what is said of a row of words: an error, or a tree -/
def PaW (e : Nat) (ts : List TD) : (Int × Nat) ⊕ Tr → Prop
 | .inl c => ∃ n, Gr e n 0 [] ts = some (.inl c) ∨ (∃ t u us, Gr e n 0 [] ts = some (.inr (t, u :: us)) ∧ c = bad e (u :: us)) ∨ ∃ t, Gr e n 0 [] ts = some (.inr (t, [])) ∧ Dp 60 t ∧ c = (43, 0)
 | .inr t => ∃ n, Gr e n 0 [] ts = some (.inr (t, [])) ∧ ¬ Dp 60 t
/-- WHAT PARSE SAYS OF A TEXT -/
def PaD (s : ByteArray) (r : (Int × Nat) ⊕ Tr) : Prop := ∃ ts e p, Lxs s ts e p ∧ ((e ≠ 0 ∧ r = .inl (e, p)) ∨ (e = 0 ∧ PaW s.size ts r))
theorem paW_one {e : Nat} {ts : List TD} {r r' : (Int × Nat) ⊕ Tr} (h : PaW e ts r) (h' : PaW e ts r') : r = r' := by
 cases r with
 | inl c =>
  obtain ⟨n, h⟩ := h
  cases r' with
  | inl c' =>
   obtain ⟨m, h'⟩ := h'
   rcases h with h | ⟨t, u, us, h, rfl⟩ | ⟨t, h, hd, rfl⟩ <;> rcases h' with h' | ⟨t', u', us', h', rfl⟩ | ⟨t', h', hd', rfl⟩ <;> cases gr_one h h' <;> rfl
  | inr t' =>
   obtain ⟨m, h', hd'⟩ := h'
   rcases h with h | ⟨t, u, us, h, rfl⟩ | ⟨t, h, hd, rfl⟩
   ·cases gr_one h h'
   ·cases gr_one h h'
   ·cases gr_one h h'
    exact absurd hd hd'
 | inr t =>
  obtain ⟨n, h, hd⟩ := h
  cases r' with
  | inl c' =>
   obtain ⟨m, h'⟩ := h'
   rcases h' with h' | ⟨t', u', us', h', rfl⟩ | ⟨t', h', hd', rfl⟩
   ·cases gr_one h h'
   ·cases gr_one h h'
   ·cases gr_one h h'
    exact absurd hd' hd
  | inr t' =>
   obtain ⟨m, h', hd'⟩ := h'
   cases gr_one h h'
   rfl
/-- .. which is one thing -/
theorem paD_one {s : ByteArray} {r r' : (Int × Nat) ⊕ Tr} (h : PaD s r) (h' : PaD s r') : r = r' := by
 obtain ⟨ts, e, p, h1, h2⟩ := h
 obtain ⟨ts', e', p', h1', h2'⟩ := h'
 obtain ⟨rfl, rfl, rfl⟩ := lxs_unique h1 h1'
 rcases h2 with ⟨h2, rfl⟩ | ⟨h2, h3⟩ <;> rcases h2' with ⟨h2', rfl⟩ | ⟨h2', h3'⟩
 ·rfl
 ·exact absurd h2' h2
 ·exact absurd h2 h2'
 ·exact paW_one h3 h3'
theorem lx_short {s : ByteArray} {a : Nat} {ts : List TD} {e : Int} {p : Nat} (h : Lx s a ts e p) : ∀ t ∈ ts, t.text.size ≤ s.size := by
 induction ts generalizing a with
 | nil => exact fun t h => by cases h
 | cons t ts ih =>
  obtain ⟨k, h, hk, hw, hr⟩ := h.cons
  intro u hu
  rcases List.mem_cons.1 hu with rfl | hu
  ·have := hw.2.1
   omega
  ·exact ih hr u hu
theorem lxs_short {s : ByteArray} {ts : List TD} (h : Lxs s ts 0 0) : s.size ≤ 4096 ∧ ts.length ≤ 4096 ∧ ∀ t ∈ ts, t.text.size ≤ 4096 := by
 unfold Lxs at h
 split at h
 ·exact absurd h.2.1 (by decide)
 ·rename_i hs
  have h1 := lx_len h
  have h2 := lx_short h
  exact ⟨by omega, by omega, fun t ht => by have := h2 t ht; omega⟩
/-- the words that Tokens answers, for the reader -/
theorem ws_of {w w' : World} {xs : List TM} {va : Option Addr} {vn vc : Nat} (hrow : w'.ownsRow w.heap.size 119 5 (.slice va vn vc) xs.length (xs.flatMap V5)) (hmg : ∀ x ∈ xs, Mg w w' x) : vn = xs.length ∧ Ws (fun b => w.heap.size ≤ b ∧ b < w'.heap.size) w' xs va vn := by
 have hv : ∀ (l : List TM) (i : Nat) (h : i < l.length) (j : Nat), j < 5 → (l.flatMap V5)[i * 5 + j]? = (V5 l[i])[j]? := by
  intro l
  induction l with
  | nil => exact fun i h => absurd h (by simp)
  | cons x l ih =>
   intro i h j hj
   show (V5 x ++ l.flatMap V5)[i * 5 + j]? = _
   cases i with
   | zero =>
    rw [List.getElem?_append_left (by show 0 * 5 + j < 5; omega), Nat.zero_mul, Nat.zero_add]
    rfl
   | succ i =>
    rw [List.getElem?_append_right (by show 5 ≤ (i + 1) * 5 + j; omega), show (i + 1) * 5 + j - (V5 x).length = i * 5 + j by show (i + 1) * 5 + j - 5 = _; omega, ih i (by simpa using h) j hj]
    rfl
 have hm : ∀ x ∈ xs, Rd w' x.ad x.len x.cap x.zs ∧ InS (fun b => w.heap.size ≤ b ∧ b < w'.heap.size) x.ad x.len ∧ Canon x.zs ∧ val x.zs = x.d.num := fun x hx => by
  obtain ⟨h1, h2⟩ := hmg x hx
  refine ⟨h1.rd, fun b off e h0 => ?_, h2⟩
  rcases h1.2 with h | ⟨b', ys, e', hb, hr, _⟩
  ·omega
  ·rw [e'] at e
   cases e
   exact ⟨hb, lt_of_block hr⟩
 rcases hrow.2 with ⟨e, hn⟩ | ⟨g, cap, cur, e, hb, hg, hc, hmx, hs, ht⟩
 ·cases e
  exact ⟨hn.symm, ⟨hn, .inl rfl, hm⟩⟩
 ·cases e
  refine ⟨rfl, ⟨rfl, .inr ⟨g, rfl, ⟨hb, lt_of_block hg⟩, lt_of_block hg, fun i hi j hj => ?_⟩, hm⟩⟩
  rw [cell_of_row w' g (i * 5 + j) _ _ (0, 0) hg, ← hv xs i hi j hj, ← ht, List.getElem?_take, if_pos (by omega)]
  simp
end Sx
end Go.Proofs.YtgpaajolcpgeaaaGreatDoor

namespace Go.Proofs.YtgpaajolcpgeaaaGreatDoor
open Go.RowKit
namespace Sx

/-- what Parse answers -/
def PaR (w : World) (s : ByteArray) (en : Ending) (w' : World) : Prop :=
 Below w.heap.size w w' ∧ ∃ r, PaD s r ∧ match r with
  | .inl c => c.1 ≠ 0 ∧ en = .returned (.tuple #[tz.val, .agg #[.int .i64 c.1, .int .i64 c.2]])
  | .inr t => ∃ x : TC, en = .returned (.tuple #[x.val, .agg #[.int .i64 0, .int .i64 0]]) ∧ Rt (fun b => w.heap.size ≤ b) w' x t ∧ Few4 4096 t
/-- a mishap's block -/
abbrev MsB (w : World) (b : Nat) (c p : Int) : Prop := w.heap[b]? = some (.cells #[.int .i64 c, .int .i64 p] 31 (0, 0))
theorem ms_set {w : World} {b : Nat} {c p : Int} (h : MsB w b c p) (c' p' : Int) : MsB ((w.setCell ⟨b, 0, none⟩ (.int .i64 c')).setCell ⟨b, 1, none⟩ (.int .i64 p')) b c' p' := by
 have := heap_setCell_same _ b 1 _ 31 (.int .i64 p') (heap_setCell_same w b 0 _ 31 (.int .i64 c') h)
 simpa using this
theorem ms_only (w : World) (b : Nat) (c' p' : Int) : Only b w ((w.setCell ⟨b, 0, none⟩ (.int .i64 c')).setCell ⟨b, 1, none⟩ (.int .i64 p')) := (Only.set b 0 w _).trans (Only.set b 1 _ _)
theorem ms_two (w : World) : MsB ((w.alloc (.cells #[.int .i64 0, .string ⟨#[]⟩, .slice none 0 0, .bool false, .slice none 0 0, .slice none 0 0] 28)).alloc (.cells #[.int .i64 0, .int .i64 0] 31)) (w.heap.size + 1) 0 0 := by
 have := heap_alloc_new (w.alloc (.cells #[.int .i64 0, .string ⟨#[]⟩, .slice none 0 0, .bool false, .slice none 0 0, .slice none 0 0] 28)) (.cells #[.int .i64 0, .int .i64 0] 31)
 rw [show (w.alloc (.cells #[.int .i64 0, .string ⟨#[]⟩, .slice none 0 0, .bool false, .slice none 0 0, .slice none 0 0] 28)).heap.size = w.heap.size + 1 by simp] at this
 exact this
set_option maxRecDepth 100000 in
set_option maxHeartbeats 3200000 in
theorem parse_n (s : ByteArray) (w : World) (hs : s.size ≤ 1099511627776) (hS : Sgn w) (hO : Wo w) :
  Calls Tryz.prog 12 #[.string s] w fun en w' => PaR w s en w' := by
 have b1 := below_alloc w (.cells #[.int .i64 0, .string ⟨#[]⟩, .slice none 0 0, .bool false, .slice none 0 0, .slice none 0 0] 28)
 have b2 := below_alloc' b1 (.cells #[.int .i64 0, .int .i64 0] 31)
 have y : VB _ w.heap.size tz := ((below_alloc _ (.cells #[.int .i64 0, .int .i64 0] 31)).block w.heap.size (by simp)).trans (vb_zero w)
 have z := ms_two w
 have hc := hide (tokens_u s _ hs (hS.below b2))
 replace hO := hide hO
 clear b1
 go_enter Tryz.func12, Tryz.ntmps12
 go_wp2_with fail
 have hsz2 : w.heap.size + 1 < ((w.alloc (.cells #[.int .i64 0, .string ⟨#[]⟩, .slice none 0 0, .bool false, .slice none 0 0, .slice none 0 0] 28)).alloc (.cells #[.int .i64 0, .int .i64 0] 31)).heap.size := by simp
 generalize (w.alloc (.cells #[.int .i64 0, .string ⟨#[]⟩, .slice none 0 0, .bool false, .slice none 0 0, .slice none 0 0] 28)).alloc (.cells #[.int .i64 0, .int .i64 0] 31) = w2 at *
 refine hc.out.mono ?_
 rintro en w3 ⟨xs, va, vn, vc, x, p, htk, rfl, hrow, hmg, -, k3⟩
 clear hc
 have b4 := below_alloc w3 (.cells #[.int .i64 x, .int .i64 p] 31)
 have y4 := (y.below k3).below b4
 have z4 : MsB _ (w.heap.size + 1) 0 0 := (b4.block _ (Nat.lt_of_lt_of_le hsz2 k3.size)).trans ((k3.block _ hsz2).trans z)
 have u4 : MsB _ w3.heap.size x p := heap_alloc_new w3 _
 have hb4 := hide (grow_step b4 (grow_step k3 b2))
 have hsz3 := k3.size
 have u0 := cell_of_row _ w3.heap.size 0 _ _ (0, 0) u4
 replace hrow := hide hrow
 replace hmg := hide hmg
 replace htk := hide htk
 replace y4 := hide y4
 replace z4 := hide z4
 clear y z b2
 by_cases hx0 : x = 0
 ·subst hx0
  obtain ⟨hlx, hp0⟩ : Lxs s (xs.map TM.d) 0 0 ∧ p = 0 := by
   rcases htk.out with ⟨_, h2, h3⟩ | ⟨h, _⟩
   ·exact ⟨h3, h2⟩
   ·exact absurd rfl h
  subst hp0
  obtain ⟨hs4, hn4, ht4⟩ := lxs_short hlx
  obtain ⟨rfl, hws⟩ := ws_of hrow.out hmg.out
  rw [List.length_map] at hn4
  have hsh : Sht xs := fun x hx => ht4 x.d (List.mem_map_of_mem hx)
  have hrd := hide (read_n (e := s.size) (vc := vc) (fun b hb => Nat.lt_of_lt_of_le hb.2 b4.size) (hws.kf (Kf.of_below b4)) (hO.out.below hb4.out) (by omega) hsh)
  have hrem : Hid (rem xs 0 = xs.map TM.d) := hide rfl
  have h43 : w3.heap.size < (w3.alloc (.cells #[.int .i64 0, .int .i64 (0 : Nat)] 31)).heap.size := by simp
  replace hlx := hide hlx
  replace u4 := hide u4
  clear hrow hmg htk hws ht4 hsh b4 hO k3
  generalize hnl : xs.length = nl at *
  replace hnl := hide hnl
  go_wp2_with fail
  generalize w3.alloc (.cells #[.int .i64 0, .int .i64 (0 : Nat)] 31) = w4 at *
  refine hrd.out.mono ?_
  rintro en w5 ⟨k5, r, n, hr, hen⟩
  clear hrd u0
  have hen2 : (∃ c : Int × Nat, c.1 ≠ 0 ∧ PaW s.size (xs.map TM.d) (.inl c) ∧ en = .returned (.tuple #[tz.val, .agg #[.int .i64 c.1, .int .i64 c.2]])) ∨ ∃ (t : Tr) (x : TC), Gr s.size n 0 [] (xs.map TM.d) = some (.inr (t, [])) ∧ Few4 4096 t ∧ en = .returned (.tuple #[x.val, .agg #[.int .i64 0, .int .i64 0]]) ∧ Rt (fun b => w2.heap.size ≤ b ∧ b ≠ w3.heap.size) w5 x t := by
   rw [hrem.out] at hr
   match r, hr, hen with
   | .inl c, hr, hen => exact .inl ⟨c, gr_err n hr, ⟨n, .inl hr⟩, hen⟩
   | .inr (t, []), hr, hen =>
    obtain ⟨x, h1, h2⟩ := hen
    refine .inr ⟨t, x, hr, fun f => Nat.le_trans (gr_few hr f) (by rw [List.length_map, hnl.out]; omega), h1, h2.imp fun b hb => by omega⟩
   | .inr (t, u :: us), hr, hen => exact .inl ⟨bad s.size (u :: us), bad_ne _ _, ⟨n, .inr (.inl ⟨t, u, us, hr, rfl⟩)⟩, hen⟩
  have y5 := y4.out.below k5
  have z5 : MsB _ (w.heap.size + 1) 0 0 := (k5.block _ (lt_of_block z4.out)).trans z4.out
  have u5 : MsB _ w3.heap.size 0 (0 : Nat) := (k5.block _ h43).trans u4.out
  have hb5 := grow_step k5 hb4.out
  have h53 : w3.heap.size < w5.heap.size := Nat.lt_of_lt_of_le h43 k5.size
  clear y4 z4 u4 hb4 hr hen k5 h43
  rcases hen2 with ⟨c, hc0, hpw, rfl⟩ | ⟨t, x, hr, hf, rfl, hx⟩
  ·obtain ⟨c1, c2⟩ := c
   dsimp only at hc0 hpw ⊢
   have b6 := below_alloc w5 (.cells #[.int .i64 tz.k, .string tz.nm, .slice tz.na tz.nn tz.nc, .bool tz.s, .slice tz.a tz.l tz.c, .slice tz.ka tz.kn tz.kc] 28)
   have t6 := vb_new w5 tz
   have y6 := y5.below b6
   have z6 : MsB _ (w.heap.size + 1) 0 0 := (b6.block _ (lt_of_block z5)).trans z5
   have u6 : MsB _ w3.heap.size 0 (0 : Nat) := (b6.block _ h53).trans u5
   have hb6 := grow_step b6 hb5
   replace t6 := hide t6
   replace y6 := hide y6
   replace z6 := hide z6
   replace u6 := hide u6
   replace hb6 := hide hb6
   clear y5 z5 u5 b6 hb5
   iterate 17 (first | go_skip | go_guarded | go_step | go_upon | go_simp)
   generalize w5.alloc (.cells #[.int .i64 tz.k, .string tz.nm, .slice tz.na tz.nn tz.nc, .bool tz.s, .slice tz.a tz.l tz.c, .slice tz.ka tz.kn tz.kc] 28) = w6 at *
   generalize hbt : w5.heap.size = bt at *
   have e0 := cell_of_row _ w3.heap.size 0 _ _ (0, 0) u6.out
   have e1 := cell_of_row _ w3.heap.size 1 _ _ (0, 0) u6.out
   have f0 := frozen_of_row _ w3.heap.size 0 _ _ u6.out
   have f1 := frozen_of_row _ w3.heap.size 1 _ _ u6.out
   have uo := ms_only w6 w3.heap.size c1 c2
   have hbz := hide (hb6.out.trans (uo.below (by omega)))
   have yz : Hid (VB _ w.heap.size tz) := hide ((uo.block _ (by omega)).trans y6.out)
   have zz : Hid (MsB _ (w.heap.size + 1) 0 0) := hide ((uo.block _ (by omega)).trans z6.out)
   have tzz : Hid (VB _ bt tz) := hide ((uo.block _ (by omega)).trans t6.out)
   have uz := hide (ms_set u6.out c1 c2)
   have k0 := cell_of_row _ w3.heap.size 0 _ _ (0, 0) uz.out
   have hne : (c1 == 0) = false := by simpa using hc0
   replace hpw := hide hpw
   clear y6 z6 u6 hb6 t6 uo
   go_wp2_with fail
   clear e0 e1 f0 f1 k0
   generalize (w6.setCell ⟨w3.heap.size, 0, none⟩ (.int .i64 c1)).setCell ⟨w3.heap.size, 1, none⟩ (.int .i64 (c2 : Int)) = wz at *
   have kd := grow_drew (Below.refl wz.heap.size wz)
   have y5 := yz.out.below kd
   have z6 : MsB wz.drew (w.heap.size + 1) 0 0 := zz.out
   have u6 : MsB wz.drew w3.heap.size c1 (c2 : Int) := uz.out
   have t6 : VB wz.drew bt tz := tzz.out
   refine wp_region_held_drew (S := (fun w' => w'.cell? ⟨w3.heap.size, 0, none⟩ = some (.int .i64 c1) ∧ w'.cell? ⟨w3.heap.size, 1, none⟩ = some (.int .i64 (c2 : Int)) ∧ w'.cell? ⟨bt, 0, none⟩ = some (.int .i64 tz.k) ∧ w'.cell? ⟨bt, 1, none⟩ = some (.string tz.nm) ∧ w'.cell? ⟨bt, 2, none⟩ = some (.slice tz.na tz.nn tz.nc) ∧ w'.cell? ⟨bt, 3, none⟩ = some (.bool tz.s) ∧ w'.cell? ⟨bt, 4, none⟩ = some (.slice tz.a tz.l tz.c) ∧ w'.cell? ⟨bt, 5, none⟩ = some (.slice tz.ka tz.kn tz.kc))) (by kernel_rfl) ⟨cell_of_row _ w3.heap.size 0 _ _ (0, 0) u6, cell_of_row _ w3.heap.size 1 _ _ (0, 0) u6, t6.c0, t6.c1, t6.c2, t6.c3, t6.c4, t6.c5⟩ (fun hHeld => ?_)
   show wpAnyH _ _ _ _ _ 4 _ _ _
   have hb5 := hide (grow_step kd hbz.out)
   have hkz := hide kd
   clear zz uz yz tzz hbz kd
   generalize wz.drew = w5z at *
   refine wpAnyH_take (i := 0) (oi := ⟨some 33, _, _, _, _, _⟩) (v := ?_) rfl (by kernel_rfl) (by kernel_rfl) (by kernel_rfl) (fun _ _ _ h => by first | exact h | cases h.1) (Or.inl ⟨by rfl, ?_⟩) (by assumption) ?_
   rotate_left
   ·intro wq hSw; (try dsimp only at hSw); go_simp; (try with_reducible rfl)
   (try simp only [Act.put, List.setIfInBounds_toArray, List.set_cons_zero, List.set_cons_succ])
   refine wpAnyH_take (i := 1) (oi := ⟨some 34, _, _, _, _, _⟩) (v := ?_) rfl (by kernel_rfl) (by kernel_rfl) (by kernel_rfl) (fun _ _ _ h => by first | exact h | cases h.1) (Or.inl ⟨by rfl, ?_⟩) (by assumption) ?_
   rotate_left
   ·intro wq hSw; (try dsimp only at hSw); go_simp; (try with_reducible rfl)
   (try simp only [Act.put, List.setIfInBounds_toArray, List.set_cons_zero, List.set_cons_succ])
   refine wpAnyH_ready (rs := [2]) (by kernel_rfl) (by simp) ?_
   refine AllReadyH.cons (o := ⟨none, _, _, _, _, _⟩) rfl (fun K hK => ?_) AllReadyH.nil
   have q0 := y5.c0
   have f0 := y5.f 0
   have q1 := y5.c1
   have f1 := y5.f 1
   have q2' := y5.c2
   have f2 := y5.f 2
   have q3 := y5.c3
   have f3 := y5.f 3
   have q4 := y5.c4
   have f4 := y5.f 4
   have q5 := y5.c5
   have f5 := y5.f 5
   have ho := v_only w5z w.heap.size tz
   have u7 := (ho.block w3.heap.size (by omega)).trans u6
   have z7 := (ho.block (w.heap.size + 1) (by omega)).trans z6
   have t7 : VB _ bt tz := (ho.block bt (by omega)).trans t6
   have y7 := vb_set y5 tz
   go_simp
   refine hK.out _ _ ?_ ?_
   ·(try dsimp only); exact ⟨cell_of_row _ w3.heap.size 0 _ _ (0, 0) u7, cell_of_row _ w3.heap.size 1 _ _ (0, 0) u7, t7.c0, t7.c1, t7.c2, t7.c3, t7.c4, t7.c5⟩
   clear hK K hHeld; intro hHeld
   (try simp only [Act.put, List.setIfInBounds_toArray, List.set_cons_zero, List.set_cons_succ])
   have hb7 := hide (hb5.out.trans (ho.below (Nat.le_refl _)))
   change wpAnyH _ _ _ _ _ _ _ _ (vSet w5z w.heap.size tz)
   clear q0 q1 q2' q3 q4 q5 f0 f1 f2 f3 f4 f5
   have hoz := hide ho
   clear ho
   generalize vSet w5z w.heap.size tz = w7 at *
   refine wpAnyH_ready (rs := [3]) (by kernel_rfl) (by simp) ?_
   refine AllReadyH.cons (o := ⟨none, _, _, _, _, _⟩) rfl (fun K hK => ?_) AllReadyH.nil
   have e0 := cell_of_row _ (w.heap.size + 1) 0 _ _ (0, 0) z7
   have e1 := cell_of_row _ (w.heap.size + 1) 1 _ _ (0, 0) z7
   have f0 := frozen_of_row _ (w.heap.size + 1) 0 _ _ z7
   have f1 := frozen_of_row _ (w.heap.size + 1) 1 _ _ z7
   have o8 := ms_only w7 (w.heap.size + 1) c1 (c2 : Int)
   have u8 := (o8.block w3.heap.size (by omega)).trans u7
   have t8 : VB _ bt tz := (o8.block bt (by omega)).trans t7
   go_simp
   refine hK.out _ _ ?_ ?_
   ·(try dsimp only); exact ⟨cell_of_row _ w3.heap.size 0 _ _ (0, 0) u8, cell_of_row _ w3.heap.size 1 _ _ (0, 0) u8, t8.c0, t8.c1, t8.c2, t8.c3, t8.c4, t8.c5⟩
   clear hK K hHeld; intro hHeld
   (try simp only [Act.put, List.setIfInBounds_toArray, List.set_cons_zero, List.set_cons_succ])
   refine wpAnyH_done (by kernel_rfl) ?_ _
   clear e0 e1 f0 f1
   go_wp2
   have y8 : VB _ w.heap.size tz := (o8.block w.heap.size (by omega)).trans y7
   refine bodyPost_ret (results_cc rfl _ _ w.heap.size (w.heap.size + 1) 28 31 _ _ (0, 0) (0, 0) _ _ rfl rfl y8 (ms_set z7 c1 (c2 : Int)) Tryz.underlying28 Tryz.underlying31 rfl rfl (by kernel_rfl) (by kernel_rfl)) rfl ?_
   refine ⟨hb7.out.trans (o8.below (by omega)), .inl (c1, c2), ⟨_, 0, 0, hlx.out, .inr ⟨rfl, hpw.out⟩⟩, hc0, rfl⟩
  ·have b6 := below_alloc w5 (.cells #[.int .i64 x.k, .string x.nm, .slice x.na x.nn x.nc, .bool x.s, .slice x.a x.l x.c, .slice x.ka x.kn x.kc] 28)
   have t6 := vb_new w5 x
   have y6 := y5.below b6
   have z6 : MsB _ (w.heap.size + 1) 0 0 := (b6.block _ (lt_of_block z5)).trans z5
   have u6 : MsB _ w3.heap.size 0 (0 : Nat) := (b6.block _ h53).trans u5
   have hb6 := grow_step b6 hb5
   have hx6 := rt_below hx b6
   replace t6 := hide t6
   replace y6 := hide y6
   replace z6 := hide z6
   replace u6 := hide u6
   replace hb6 := hide hb6
   replace hx6 := hide hx6
   replace hr := hide hr
   replace hf := hide hf
   clear y5 z5 u5 b6 hb5 hx
   iterate 17 (first | go_skip | go_guarded | go_step | go_upon | go_simp)
   generalize w5.alloc (.cells #[.int .i64 x.k, .string x.nm, .slice x.na x.nn x.nc, .bool x.s, .slice x.a x.l x.c, .slice x.ka x.kn x.kc] 28) = w6 at *
   generalize hbt : w5.heap.size = bt at *
   have e0 := cell_of_row _ w3.heap.size 0 _ _ (0, 0) u6.out
   have e1 := cell_of_row _ w3.heap.size 1 _ _ (0, 0) u6.out
   have f0 := frozen_of_row _ w3.heap.size 0 _ _ u6.out
   have f1 := frozen_of_row _ w3.heap.size 1 _ _ u6.out
   have uo := ms_only w6 w3.heap.size 0 0
   have hb7 := hide (hb6.out.trans (uo.below (by omega)))
   have y7 : Hid (VB _ w.heap.size tz) := hide ((uo.block _ (by omega)).trans y6.out)
   have z7 : Hid (MsB _ (w.heap.size + 1) 0 0) := hide ((uo.block _ (by omega)).trans z6.out)
   have t7 : Hid (VB _ bt x) := hide ((uo.block _ (by omega)).trans t6.out)
   have u7 := hide (ms_set u6.out 0 0)
   have hx7 := hide (hx6.out.kf ⟨by rw [uo.size]; exact Nat.le_refl _, fun b hF hl => uo.block b hF.2⟩)
   clear y6 z6 u6 hb6 t6 uo hx6
   iterate 4 (first | go_skip | go_guarded | go_step | go_upon | go_simp)
   clear e0 e1 f0 f1
   generalize (w6.setCell ⟨w3.heap.size, 0, none⟩ (.int .i64 0)).setCell ⟨w3.heap.size, 1, none⟩ (.int .i64 0) = w7 at *
   have k0 := cell_of_row _ w3.heap.size 0 _ _ (0, 0) u7.out
   have q0 := t7.out.c0
   have q1 := t7.out.c1
   have q2 := t7.out.c2
   have q3 := t7.out.c3
   have q4 := t7.out.c4
   have q5 := t7.out.c5
   have hdp := hide (isDeep_n (hx7.out.imp fun _ _ => trivial) (fun f => Nat.le_trans (hf.out f) (by decide)))
   go_wp2_with fail
   refine hdp.out.mono ?_
   rintro en w8 ⟨k8, dp, rfl, hdp8⟩
   clear hdp k0 q0 q1 q2 q3 q4 q5
   have hbz := hide (grow_step k8 hb7.out)
   have yz := hide (y7.out.below k8)
   have zz : Hid (MsB _ (w.heap.size + 1) 0 0) := hide ((k8.block _ (lt_of_block z7.out)).trans z7.out)
   have tzz := hide (t7.out.below k8)
   have uz : Hid (MsB _ w3.heap.size 0 0) := hide ((k8.block _ (lt_of_block u7.out)).trans u7.out)
   have hxz := hide (rt_below hx7.out k8)
   clear hb7 y7 z7 t7 u7 hx7 k8
   replace hdp8 := hide hdp8
   generalize hwz : w8 = wz at *
   clear hwz
   cases dp with
   | true =>
    have y5 := yz.out
    have z5 := zz.out
    have e0 := cell_of_row _ (w.heap.size + 1) 0 _ _ (0, 0) z5
    have e1 := cell_of_row _ (w.heap.size + 1) 1 _ _ (0, 0) z5
    have i0 := frozen_of_row _ (w.heap.size + 1) 0 _ _ z5
    have i1 := frozen_of_row _ (w.heap.size + 1) 1 _ _ z5
    have q0 := y5.c0
    have f0 := y5.f 0
    have q1 := y5.c1
    have f1 := y5.f 1
    have q2' := y5.c2
    have f2 := y5.f 2
    have q3 := y5.c3
    have f3 := y5.f 3
    have q4 := y5.c4
    have f4 := y5.f 4
    have q5 := y5.c5
    have f5 := y5.f 5
    clear y5 z5
    go_wp2
    have y6 := vb_set yz.out tz
    have z6 := ((v_only wz w.heap.size tz).block (w.heap.size + 1) (by omega)).trans zz.out
    have o7 := ms_only (vSet wz w.heap.size tz) (w.heap.size + 1) 43 0
    have y7 : VB _ w.heap.size tz := (o7.block w.heap.size (by omega)).trans y6
    refine bodyPost_ret (results_cc rfl _ _ w.heap.size (w.heap.size + 1) 28 31 _ _ (0, 0) (0, 0) _ _ rfl rfl y7 (ms_set z6 43 0) Tryz.underlying28 Tryz.underlying31 rfl rfl (by kernel_rfl) (by kernel_rfl)) rfl ?_
    exact ⟨(hbz.out.trans ((v_only wz w.heap.size tz).below (Nat.le_refl _))).trans (o7.below (by omega)), .inl (43, 0), ⟨_, 0, 0, hlx.out, .inr ⟨rfl, n, .inr (.inr ⟨t, hr.out, (by simpa using hdp8.out), rfl⟩)⟩⟩, by decide, rfl⟩
   | false =>
    have hnd : Hid (¬ Dp 60 t) := hide fun h => by cases hdp8.out.2 h
    go_wp2_with fail
    have kd := grow_drew (Below.refl wz.heap.size wz)
    have y5 := yz.out.below kd
    have z6 : MsB wz.drew (w.heap.size + 1) 0 0 := zz.out
    have u6 : MsB wz.drew w3.heap.size 0 0 := uz.out
    have t6 : VB wz.drew bt x := tzz.out
    refine wp_region_held_drew (S := (fun w' => w'.cell? ⟨w3.heap.size, 0, none⟩ = some (.int .i64 0) ∧ w'.cell? ⟨w3.heap.size, 1, none⟩ = some (.int .i64 0) ∧ w'.cell? ⟨bt, 0, none⟩ = some (.int .i64 x.k) ∧ w'.cell? ⟨bt, 1, none⟩ = some (.string x.nm) ∧ w'.cell? ⟨bt, 2, none⟩ = some (.slice x.na x.nn x.nc) ∧ w'.cell? ⟨bt, 3, none⟩ = some (.bool x.s) ∧ w'.cell? ⟨bt, 4, none⟩ = some (.slice x.a x.l x.c) ∧ w'.cell? ⟨bt, 5, none⟩ = some (.slice x.ka x.kn x.kc))) (by kernel_rfl) ⟨cell_of_row _ w3.heap.size 0 _ _ (0, 0) u6, cell_of_row _ w3.heap.size 1 _ _ (0, 0) u6, t6.c0, t6.c1, t6.c2, t6.c3, t6.c4, t6.c5⟩ (fun hHeld => ?_)
    show wpAnyH _ _ _ _ _ 4 _ _ _
    have hb5 := hide (grow_step kd hbz.out)
    have hkz := hide kd
    clear zz uz yz tzz hbz kd
    generalize wz.drew = w5z at *
    refine wpAnyH_take (i := 0) (oi := ⟨some 33, _, _, _, _, _⟩) (v := ?_) rfl (by kernel_rfl) (by kernel_rfl) (by kernel_rfl) (fun _ _ _ h => by first | exact h | cases h.1) (Or.inl ⟨by rfl, ?_⟩) (by assumption) ?_
    rotate_left
    ·intro wq hSw; (try dsimp only at hSw); go_simp; (try with_reducible rfl)
    (try simp only [Act.put, List.setIfInBounds_toArray, List.set_cons_zero, List.set_cons_succ])
    refine wpAnyH_take (i := 1) (oi := ⟨some 34, _, _, _, _, _⟩) (v := ?_) rfl (by kernel_rfl) (by kernel_rfl) (by kernel_rfl) (fun _ _ _ h => by first | exact h | cases h.1) (Or.inl ⟨by rfl, ?_⟩) (by assumption) ?_
    rotate_left
    ·intro wq hSw; (try dsimp only at hSw); go_simp; (try with_reducible rfl)
    (try simp only [Act.put, List.setIfInBounds_toArray, List.set_cons_zero, List.set_cons_succ])
    refine wpAnyH_ready (rs := [2]) (by kernel_rfl) (by simp) ?_
    refine AllReadyH.cons (o := ⟨none, _, _, _, _, _⟩) rfl (fun K hK => ?_) AllReadyH.nil
    have q0 := y5.c0
    have f0 := y5.f 0
    have q1 := y5.c1
    have f1 := y5.f 1
    have q2' := y5.c2
    have f2 := y5.f 2
    have q3 := y5.c3
    have f3 := y5.f 3
    have q4 := y5.c4
    have f4 := y5.f 4
    have q5 := y5.c5
    have f5 := y5.f 5
    have ho := v_only w5z w.heap.size x
    have u7 := (ho.block w3.heap.size (by omega)).trans u6
    have z7 := (ho.block (w.heap.size + 1) (by omega)).trans z6
    have t7 : VB _ bt x := (ho.block bt (by omega)).trans t6
    have y7 := vb_set y5 x
    go_simp
    refine hK.out _ _ ?_ ?_
    ·(try dsimp only); exact ⟨cell_of_row _ w3.heap.size 0 _ _ (0, 0) u7, cell_of_row _ w3.heap.size 1 _ _ (0, 0) u7, t7.c0, t7.c1, t7.c2, t7.c3, t7.c4, t7.c5⟩
    clear hK K hHeld; intro hHeld
    (try simp only [Act.put, List.setIfInBounds_toArray, List.set_cons_zero, List.set_cons_succ])
    have hb7 := hide (hb5.out.trans (ho.below (Nat.le_refl _)))
    change wpAnyH _ _ _ _ _ _ _ _ (vSet w5z w.heap.size x)
    clear q0 q1 q2' q3 q4 q5 f0 f1 f2 f3 f4 f5
    have hoz := hide ho
    clear ho
    generalize vSet w5z w.heap.size x = w7 at *
    refine wpAnyH_ready (rs := [3]) (by kernel_rfl) (by simp) ?_
    refine AllReadyH.cons (o := ⟨none, _, _, _, _, _⟩) rfl (fun K hK => ?_) AllReadyH.nil
    have e0 := cell_of_row _ (w.heap.size + 1) 0 _ _ (0, 0) z7
    have e1 := cell_of_row _ (w.heap.size + 1) 1 _ _ (0, 0) z7
    have f0 := frozen_of_row _ (w.heap.size + 1) 0 _ _ z7
    have f1 := frozen_of_row _ (w.heap.size + 1) 1 _ _ z7
    have o8 := ms_only w7 (w.heap.size + 1) 0 0
    have u8 := (o8.block w3.heap.size (by omega)).trans u7
    have t8 : VB _ bt x := (o8.block bt (by omega)).trans t7
    go_simp
    refine hK.out _ _ ?_ ?_
    ·(try dsimp only); exact ⟨cell_of_row _ w3.heap.size 0 _ _ (0, 0) u8, cell_of_row _ w3.heap.size 1 _ _ (0, 0) u8, t8.c0, t8.c1, t8.c2, t8.c3, t8.c4, t8.c5⟩
    clear hK K hHeld; intro hHeld
    (try simp only [Act.put, List.setIfInBounds_toArray, List.set_cons_zero, List.set_cons_succ])
    refine wpAnyH_done (by kernel_rfl) ?_ _
    clear e0 e1 f0 f1
    go_wp2
    have y8 : VB _ w.heap.size x := (o8.block w.heap.size (by omega)).trans y7
    refine bodyPost_ret (results_cc rfl _ _ w.heap.size (w.heap.size + 1) 28 31 _ _ (0, 0) (0, 0) _ _ rfl rfl y8 (ms_set z7 0 0) Tryz.underlying28 Tryz.underlying31 rfl rfl (by kernel_rfl) (by kernel_rfl)) rfl ?_
    have hx8 := ((hxz.out.kf (Kf.of_below hkz.out)).kf ⟨by rw [hoz.out.size]; exact Nat.le_refl _, fun b hF _ => hoz.out.block b (by omega)⟩).kf ⟨by rw [o8.size]; exact Nat.le_refl _, fun b hF _ => o8.block b (by omega)⟩
    exact ⟨hb7.out.trans (o8.below (by omega)), .inr t, ⟨_, 0, 0, hlx.out, .inr ⟨rfl, n, hr.out, hnd.out⟩⟩, x, rfl, hx8.imp fun b hb => by omega, hf.out⟩
 ·have hne : (x != 0) = true := by simpa using hx0
  go_wp2_with fail
  generalize w3.alloc (.cells #[.int .i64 x, .int .i64 p] 31) = w4 at *
  have kd := grow_drew (Below.refl w4.heap.size w4)
  have y5 := y4.out.below kd
  have z5 : MsB _ (w.heap.size + 1) 0 0 := z4.out
  have u5 : MsB _ w3.heap.size x p := u4
  refine wp_region_held_drew (S := (fun w' => w'.cell? ⟨w3.heap.size, 0, none⟩ = some (.int .i64 x) ∧ w'.cell? ⟨w3.heap.size, 1, none⟩ = some (.int .i64 p))) (by kernel_rfl) ⟨cell_of_row _ w3.heap.size 0 _ _ (0, 0) u5, cell_of_row _ w3.heap.size 1 _ _ (0, 0) u5⟩ (fun hHeld => ?_)
  show wpAnyH _ _ _ _ _ 4 _ _ _
  have hb5 := hide (grow_step kd hb4.out)
  have z6 : MsB w4.drew (w.heap.size + 1) 0 0 := z5
  have u6 : MsB w4.drew w3.heap.size x p := u5
  clear z5 u5 u4 z4 y4 hb4 u0
  generalize w4.drew = w5 at *
  refine wpAnyH_take (i := 0) (oi := ⟨some 15, _, _, _, _, _⟩) (v := ?_) rfl (by kernel_rfl) (by kernel_rfl) (by kernel_rfl) (fun _ _ _ h => by first | exact h | cases h.1) (Or.inl ⟨by rfl, ?_⟩) (by assumption) ?_
  rotate_left
  ·intro wq hSw; (try dsimp only at hSw); go_simp; (try with_reducible rfl)
  (try simp only [Act.put, List.setIfInBounds_toArray, List.set_cons_zero, List.set_cons_succ])
  refine wpAnyH_take (i := 1) (oi := ⟨some 16, _, _, _, _, _⟩) (v := ?_) rfl (by kernel_rfl) (by kernel_rfl) (by kernel_rfl) (fun _ _ _ h => by first | exact h | cases h.1) (Or.inl ⟨by rfl, ?_⟩) (by assumption) ?_
  rotate_left
  ·intro wq hSw; (try dsimp only at hSw); go_simp; (try with_reducible rfl)
  (try simp only [Act.put, List.setIfInBounds_toArray, List.set_cons_zero, List.set_cons_succ])
  refine wpAnyH_ready (rs := [2]) (by kernel_rfl) (by simp) ?_
  refine AllReadyH.cons (o := ⟨none, _, _, _, _, _⟩) rfl (fun K hK => ?_) AllReadyH.nil
  have q0 := y5.c0
  have f0 := y5.f 0
  have q1 := y5.c1
  have f1 := y5.f 1
  have q2' := y5.c2
  have f2 := y5.f 2
  have q3 := y5.c3
  have f3 := y5.f 3
  have q4 := y5.c4
  have f4 := y5.f 4
  have q5 := y5.c5
  have f5 := y5.f 5
  have ho := v_only w5 w.heap.size tz
  have u7 := (ho.block w3.heap.size (by omega)).trans u6
  have z7 := (ho.block (w.heap.size + 1) (by omega)).trans z6
  have y7 := vb_set y5 tz
  go_simp
  refine hK.out _ _ ?_ ?_
  ·(try dsimp only); exact ⟨cell_of_row _ w3.heap.size 0 _ _ (0, 0) u7, cell_of_row _ w3.heap.size 1 _ _ (0, 0) u7⟩
  clear hK K hHeld; intro hHeld
  (try simp only [Act.put, List.setIfInBounds_toArray, List.set_cons_zero, List.set_cons_succ])
  have hb7 := hide (hb5.out.trans (ho.below (Nat.le_refl _)))
  change wpAnyH _ _ _ _ _ _ _ _ (vSet w5 w.heap.size tz)
  clear q0 q1 q2' q3 q4 q5 f0 f1 f2 f3 f4 f5 ho
  generalize vSet w5 w.heap.size tz = w7 at *
  refine wpAnyH_ready (rs := [3]) (by kernel_rfl) (by simp) ?_
  refine AllReadyH.cons (o := ⟨none, _, _, _, _, _⟩) rfl (fun K hK => ?_) AllReadyH.nil
  have e0 := cell_of_row _ (w.heap.size + 1) 0 _ _ (0, 0) z7
  have e1 := cell_of_row _ (w.heap.size + 1) 1 _ _ (0, 0) z7
  have f0 := frozen_of_row _ (w.heap.size + 1) 0 _ _ z7
  have f1 := frozen_of_row _ (w.heap.size + 1) 1 _ _ z7
  have o8 := ms_only w7 (w.heap.size + 1) x p
  have u8 := (o8.block w3.heap.size (by omega)).trans u7
  go_simp
  refine hK.out _ _ ?_ ?_
  ·(try dsimp only); exact ⟨cell_of_row _ w3.heap.size 0 _ _ (0, 0) u8, cell_of_row _ w3.heap.size 1 _ _ (0, 0) u8⟩
  clear hK K hHeld; intro hHeld
  (try simp only [Act.put, List.setIfInBounds_toArray, List.set_cons_zero, List.set_cons_succ])
  refine wpAnyH_done (by kernel_rfl) ?_ _
  clear e0 e1 f0 f1
  go_wp2
  have y8 : VB _ w.heap.size tz := (o8.block w.heap.size (by omega)).trans y7
  refine bodyPost_ret (results_cc rfl _ _ w.heap.size (w.heap.size + 1) 28 31 _ _ (0, 0) (0, 0) _ _ rfl rfl y8 (ms_set z7 x p) Tryz.underlying28 Tryz.underlying31 rfl rfl (by kernel_rfl) (by kernel_rfl)) rfl ?_
  refine ⟨hb7.out.trans (o8.below (by omega)), .inl (x, p), ?_, hx0, rfl⟩
  rcases htk.out with ⟨h, _⟩ | ⟨_, _, ts, h⟩
  ·exact absurd h hx0
  ·exact ⟨ts, x, p, h, .inl ⟨hx0, rfl⟩⟩
end Sx
end Go.Proofs.YtgpaajolcpgeaaaGreatDoor

namespace Go.Proofs.YtgpaajolcpgeaaaGreatDoor
open Go.RowKit
namespace Sx

theorem dp_down {n : Nat} : ∀ {t : Tr}, Dp (n + 1) t → Dp n t := by
 induction n with
 | zero => exact fun _ => ⟨_, rfl⟩
 | succ n ih =>
  rintro t ⟨u, v, hv, h⟩
  obtain ⟨u', h'⟩ := ih ⟨u, h⟩
  exact ⟨u', v, hv, h'⟩
theorem dp_kid {n : Nat} {t k : Tr} (h : ¬ Dp n t) (hk : k ∈ ksO t) : ¬ Dp n k := fun ⟨u, h2⟩ => h (dp_down ⟨u, k, hk, h2⟩)
theorem cnL_same {f g : Nat} {l : List Tr} (h : ∀ u ∈ l, cntF f u = cntF g u) : cnL f l = cnL g l := by
 induction l with
 | nil => rfl
 | cons t l ih =>
  rw [cnL_cons, cnL_cons, h t (by simp), ih fun u hu => h u (by simp [hu])]
theorem cntF_full (n : Nat) : ∀ {t : Tr}, ¬ Dp n t → cntF n t = cntF (n + 1) t := by
 induction n with
 | zero => exact fun h => absurd ⟨_, rfl⟩ h
 | succ n ih =>
  intro t h
  rw [cntF_succ, cntF_succ, cnL_same fun u hu => ih fun ⟨v, hv⟩ => h ⟨v, u, hu, hv⟩]
/-- no more levels than so many: the nodes are the tree itself and those of its kids -/
theorem cnt_self {n : Nat} {t : Tr} (h : ¬ Dp n t) : cntF n t = 1 + cnL n (ksO t) := by rw [cntF_full n h, cntF_succ]
theorem len_le_cnL {n : Nat} {l : List Tr} (h : ∀ u ∈ l, ¬ Dp n u) : l.length ≤ cnL n l := by
 induction l with
 | nil => exact Nat.le_refl _
 | cons t l ih =>
  have h1 := ih fun u hu => h u (by simp [hu])
  have h2 := cnt_self (h t (by simp))
  rw [cnL_cons, List.length_cons]
  omega
/-- the nodes below a list of trees -/
def blw (n : Nat) (l : List Tr) : Nat := cnL n (l.map ksO).flatten
theorem blw_len {n : Nat} {l : List Tr} (h : ∀ u ∈ l, ¬ Dp n u) : cnL n l = l.length + blw n l := by
 unfold blw
 induction l with
 | nil => rfl
 | cons t l ih =>
  have h1 := ih fun u hu => h u (by simp [hu])
  have h2 := cnt_self (h t (by simp))
  rw [cnL_cons, List.length_cons, List.map_cons, List.flatten_cons, cnL_append]
  omega
/-- a row without its last -/
theorem own_pop {w : World} {base n : Nat} {a : Option Addr} {c : Nat} {e : TypeId} {size : Nat} {xs ys : List Value} (h : w.ownsRow base e size (.slice a (n + 1) c) (n + 1) (xs ++ ys)) (hx : xs.length = n * size) : w.ownsRow base e size (.slice a n c) n xs := by
 refine ⟨hx, ?_⟩
 rcases h.2 with ⟨e0, hn⟩ | ⟨g, cap, cur, e0, hb, hg, hc, hm, hs, ht⟩
 ·cases hn
 ·simp only [Value.slice.injEq, true_and] at e0
  obtain ⟨rfl, rfl⟩ := e0
  refine .inr ⟨g, c, cur, rfl, hb, hg, by omega, hm, hs, ?_⟩
  have h1 := congrArg (List.take (n * size)) ht
  rw [List.take_take, Nat.min_eq_left (Nat.mul_le_mul_right _ (by omega)), List.take_left' hx] at h1
  exact h1
theorem prs_pop {F : Nat → Prop} {w : World} {q : List SlT} {s : SlT} {LL : List (List Tr)} {L : List Tr} (h : Prs F w (q ++ [s]) (LL ++ [L])) : Prs F w q LL ∧ KL F w s L := by
 have hl : q.length = LL.length := by have := h.1; simp at this; exact this
 refine ⟨⟨hl, fun i s' L' h1 h2 => h.2 i s' L' ?_ ?_⟩, h.2 q.length s L (by simp) (by rw [hl]; simp)⟩
 ·rw [List.getElem?_append_left (List.getElem?_eq_some_iff.1 h1).1, h1]
 ·rw [List.getElem?_append_left (List.getElem?_eq_some_iff.1 h2).1, h2]
theorem snoc_of {α : Type} {l : List α} {n : Nat} (h : l.length = n + 1) : ∃ l' x, l = l' ++ [x] ∧ l'.length = n := by
 refine ⟨l.take n, l[n], ?_, by simp; omega⟩
 rw [← List.take_succ_eq_append_getElem, List.take_of_length_le (by omega)]
end Sx
end Go.Proofs.YtgpaajolcpgeaaaGreatDoor

namespace Go.Proofs.YtgpaajolcpgeaaaGreatDoor
open Go.RowKit
namespace Sx

/-- what Size holds: so many counted, these lists left; N in all -/
structure SzS (f N : Nat) (w : World) (v : Value) (c : Nat) (wr : World) (q : List SlT) (LL : List (List Tr)) : Prop where
 own : wr.ownsRow w.heap.size 26 1 v q.length (q.map SlT.val)
 pr : Prs (fun b => b < w.heap.size) w q LL
 dp : ∀ u ∈ LL.flatten, ¬ Dp f u
 sum : c + cnL f LL.flatten = N
 len : LL.length ≤ c
 bl : Below w.heap.size w wr
/-- what Size answers -/
def SzR (w : World) (N : Nat) (en : Ending) (w' : World) : Prop := Below w.heap.size w w' ∧ en = .returned (.int .i64 ((if 3000 < N then 3001 else N : Nat) : Int))
theorem SzS.below {f N : Nat} {w wr w' : World} {v : Value} {c : Nat} {q : List SlT} {LL : List (List Tr)} (h : SzS f N w v c wr q LL) (k : Below wr.heap.size wr w') : SzS f N w v c w' q LL :=
 { h with own := h.own.kept (gb_of (m := w'.heap.size) k) (by
   rcases Option.eq_none_or_eq_some v.ownBlock with e | ⟨b, e⟩
   ·exact .inl e
   ·refine .inr fun e2 => ?_
    have := (h.own.lt b e).2
    have := k.size
    rw [e] at e2
    cases e2
    omega), bl := h.bl.trans (k.mono h.bl.size) }
/-- a list more -/
theorem SzS.put {f N : Nat} {w wr w2 : World} {v v2 : Value} {c : Nat} {q : List SlT} {LL : List (List Tr)} (h : SzS f N w v c wr q LL) {s : SlT} {L : List Tr} (hs : KL (fun b => b < w.heap.size) w s L) (hd : ∀ u ∈ L, ¬ Dp f u) (hl : LL.length + 1 ≤ c)
  (h4 : w2.ownsRow w.heap.size 26 1 v2 (q.length + 1) ((q ++ [s]).map SlT.val)) (g2 : wr.grownBy w2 v.ownBlock) : SzS f (N + cnL f L) w v2 c w2 (q ++ [s]) (LL ++ [L]) := by
 have hob : ∀ b, v.ownBlock = some b → w.heap.size ≤ b := fun b e => (h.own.lt b e).1
 refine { own := by rw [List.length_append]; exact h4, pr := h.pr.snoc hs, dp := ?_, sum := ?_, len := by rw [List.length_append]; exact hl, bl := ?_ }
 ·intro u hu
  rw [List.flatten_append] at hu
  rcases List.mem_append.1 hu with hu | hu
  ·exact h.dp u hu
  ·exact hd u (by simpa using hu)
 ·rw [List.flatten_append, cnL_append, ← h.sum]
  simp
  omega
 ·exact ⟨g2.os.trans h.bl.os, g2.tape.trans h.bl.tape, g2.output.trans h.bl.output, Nat.le_trans h.bl.size g2.size, fun i hi => (g2.block i (Nat.lt_of_lt_of_le hi h.bl.size) (fun e => by have := hob i e.symm; omega)).trans (h.bl.block i hi)⟩
set_option maxRecDepth 100000 in
set_option maxHeartbeats 3200000 in
theorem size_n {w : World} {x : TC} {t : Tr} {f : Nat} (hx : Rt An w x t) (hf : ¬ Dp f t) (hB : cntF f t ≤ 1073741824) : Calls Tryz.prog 24 #[x.val] w fun en w' => SzR w (cntF f t) en w' := by
 obtain ⟨lb, ks, rfl⟩ := rt_of hx
 have b0 := below_alloc w (.cells #[.int .i64 x.k, .string x.nm, .slice x.na x.nn x.nc, .bool x.s, .slice x.a x.l x.c, .slice x.ka x.kn x.kc] 28)
 have y0 := vb_new w x
 have hx0 := rt_below hx b0
 have e5 := y0.c5
 have hk0 := KL.lo (s := ⟨x.ka, x.kn, x.kc⟩) (rt_nd hx0).2
 have hcs := cnt_self hf
 rw [ksO_nd] at hcs
 generalize cntF f (nd lb ks) = N at *
 have hs0 : ∀ wa : World, KL (fun b => b < wa.heap.size) wa ⟨x.ka, x.kn, x.kc⟩ ks → SzS f N wa (.slice (some ⟨wa.heap.size, 0, none⟩) 1 1) 1 (wa.alloc (.cells #[.slice x.ka x.kn x.kc] 26)) [⟨x.ka, x.kn, x.kc⟩] [ks] := fun wa hk0 => { own := ⟨rfl, .inr ⟨wa.heap.size, 1, _, rfl, Nat.le_refl _, heap_alloc_new wa _, Nat.le_refl _, by decide, rfl, rfl⟩⟩, pr := (prs_nil _ _).snoc hk0, dp := fun u hu => dp_kid hf (by simpa [ksO_nd] using hu), sum := by simpa using hcs.symm, len := Nat.le_refl _, bl := below_alloc wa _ }
 have hs1 := hide (hs0 _ hk0)
 replace b0 := hide b0
 clear hx hx0 hk0 hcs y0 hf hs0
 go_enter Tryz.func24, Tryz.ntmps24
 go_wp2_with fail
 clear e5
 rw [show w.heap.size + 1 = (w.alloc (.cells #[.int .i64 x.k, .string x.nm, .slice x.na x.nn x.nc, .bool x.s, .slice x.a x.l x.c, .slice x.ka x.kn x.kc] 28)).heap.size by simp]
 generalize w.alloc (.cells #[.int .i64 x.k, .string x.nm, .slice x.na x.nn x.nc, .bool x.s, .slice x.a x.l x.c, .slice x.ka x.kn x.kc] 28) = wa at *
 go_loopg [3, 4] (1 + 2 * cnL f ks) (fun k c v wr => ∃ (cc : Nat) (q : List SlT) (LL : List (List Tr)), c = .int .i64 cc ∧ cc ≤ 3000 ∧ LL.length + 2 * cnL f LL.flatten ≤ k ∧ Hid (SzS f N wa v cc wr q LL))
 case atStart => exact ⟨1, _, _, rfl, by decide, by simp, hs1⟩
 case round =>
  clear hs1
  obtain ⟨cc, q, LL, rfl, hcc, hm, hs⟩ := hrel
  obtain ⟨-, a, c, rfl, hrow⟩ := own_sl hs.out.own
  have hql : q.length = LL.length := hs.out.pr.1
  match hn : q.length with
  | 0 =>
   rw [hn] at hql hrow
   obtain rfl : LL = [] := List.length_eq_zero_iff.1 hql.symm
   have hN : N = cc := by
    have := hs.out.sum
    simp [cnL] at this
    omega
   have hfin : Hid (SzR w N (.returned (.int .i64 cc)) wr) := hide ⟨b0.out.trans (hs.out.bl.mono b0.out.size), by rw [hN, if_neg (by omega)]⟩
   clear hs hql hrow hm
   go_wp2
   refine bodyPost_ret (results_tmp rfl _ _ _) rfl ?_
   exact hfin.out
  | n + 1 =>
   obtain ⟨q', s, rfl, hq'⟩ := snoc_of hn
   obtain ⟨LL', L, rfl, hL'⟩ := snoc_of (hql.symm.trans hn)
   obtain ⟨g, rfl, hg, -, hc⟩ := hrow.resolve_left (by omega)
   obtain ⟨ka, kn, kc⟩ := s
   have ct : wr.cell? ⟨g, n, none⟩ = some (.slice ka kn kc) := by
    have := hc n ⟨ka, kn, kc⟩ (by rw [← hq']; simp)
    rwa [Nat.zero_add] at this
   have hcap : n + 1 ≤ c := by
    have := hs.out.own.2
    rw [hn] at this
    rcases this with ⟨e, _⟩ | ⟨g', cap, cur, e, _, _, h, _⟩
    ·cases e
    ·cases e
     exact h
   obtain ⟨hpr, hkl⟩ := prs_pop hs.out.pr
   have ho1 := hs.out.own
   rw [hn, List.map_append] at ho1
   have ho2 := own_pop ho1 (by rw [List.length_map, hq', Nat.mul_one])
   have hLn : L.length = kn := hkl.1
   have hdL : ∀ u ∈ L, ¬ Dp f u := fun u hu => hs.out.dp u (by simp [hu])
   have hsum := hs.out.sum
   rw [List.flatten_append, cnL_append] at hsum
   simp only [List.flatten_cons, List.flatten_nil, List.append_nil] at hsum
   have hbw := blw_len hdL
   have hlen := hs.out.len
   rw [List.length_append, List.length_singleton] at hlen
   have hs1 : SzS f (cc + kn + cnL f LL'.flatten) wa (.slice (some ⟨g, 0, none⟩) n c) (cc + kn) wr q' LL' := { own := by rw [hq']; exact ho2, pr := hpr, dp := fun u hu => hs.out.dp u (by simp only [List.flatten_append, List.mem_append]; exact .inl hu), sum := rfl, len := by omega, bl := hs.out.bl }
   rw [List.length_append, List.length_singleton, List.flatten_append, cnL_append] at hm
   simp only [List.flatten_cons, List.flatten_nil, List.append_nil] at hm
   have hbl := hide hs.out.bl
   have hn3 : n ≤ 3000 := by omega
   have h1 : IntKind.i64.wrap (((n + 1 : Nat) : Int) - 1) = (n : Int) := by
    rw [IntKind.wrap_i64]
    omega
   have h2 : IntKind.i64.wrap ((cc : Int) + (kn : Int)) = ((cc + kn : Nat) : Int) := by
    rw [IntKind.wrap_i64]
    omega
   have hgt0 : decide ((0 : Int) < ((n + 1 : Nat) : Int)) = true := by
    rw [decide_eq_true_eq]
    omega
   replace hs1 := hide hs1
   replace hkl := hide hkl
   replace hdL := hide hdL
   replace hLn := hide hLn
   clear hs hrow hc hpr ho1 ho2 hn hq' hql hL'
   have hi1 : (n : Int) < ((n + 1 : Nat) : Int) := by omega
   have hi2 : (n : Int) ≤ (c : Int) := by omega
   by_cases hbig : 3000 < cc + kn
   ·have hg2 : decide ((3000 : Int) < ((cc + kn : Nat) : Int)) = true := by
     rw [decide_eq_true_eq]
     omega
    have hfin : Hid (SzR w N (.returned (.int .i64 3001)) wr) := hide ⟨b0.out.trans (hbl.out.mono b0.out.size), by rw [if_pos (by have := hLn.out; omega)]; rfl⟩
    go_wp2
    refine bodyPost_ret (results_tmp rfl _ _ _) rfl ?_
    exact hfin.out
   ·have hg2 : decide ((3000 : Int) < ((cc + kn : Nat) : Int)) = false := by
     rw [decide_eq_false_iff_not]
     omega
    go_wp2_with fail
    clear ct h1 hgt0 hi1 hi2
    go_loopw [4, 33] (fun vv i wr2 => ∃ (j : Nat) (q2 : List SlT) (LL2 : List (List Tr)), j ≤ kn ∧ i = .int .i64 j ∧ LL2.length = LL'.length + j ∧ Hid (SzS f (cc + kn + cnL f LL'.flatten + blw f (L.take j)) wa vv (cc + kn) wr2 q2 LL2)) (fun _ i _ => kn - (intOf i).toNat)
    case atStart => exact ⟨0, q', LL', Nat.zero_le _, rfl, rfl, by simpa [blw, cnL] using hs1⟩
    case round =>
     clear hs1
     obtain ⟨j, q2, LL2, hj, rfl, hl2, hs2⟩ := hrel
     by_cases hjn : j < kn
     ·have hlt2 : decide ((j : Int) < (kn : Int)) = true := by
       rw [decide_eq_true_eq]
       omega
      obtain ⟨b2, off2, rfl, hb2, hub, hc⟩ := hkl.out.2.resolve_left (show ¬ kn = 0 by omega)
      have hjL : j < L.length := by rw [hLn.out]; exact hjn
      obtain ⟨y, hcy, hy⟩ := hc j hjL
      have hone := take_one (List.getElem?_eq_getElem hjL)
      have hdu := hdL.out _ (List.getElem_mem hjL)
      generalize L[j] = u at hy hone hdu
      have hbl2 := hs2.out.bl
      have hcw : ∀ i, i < 6 → wr.cell? ⟨b2, off2 + j * 6 + i, none⟩ = y.enc[i]? := fun i hi => (World.cell?_of_block (a := ⟨b2, off2 + j * 6 + i, none⟩) (hbl2.block b2 hb2)).trans (hcy i hi)
      have e0 : wr.cell? ⟨b2, off2 + j * 6, none⟩ = some (.int .i64 y.k) := hcw 0 (by decide)
      have e1 : wr.cell? ⟨b2, off2 + j * 6 + 1, none⟩ = some (.string y.nm) := hcw 1 (by decide)
      have e2 : wr.cell? ⟨b2, off2 + j * 6 + 2, none⟩ = some (.slice y.na y.nn y.nc) := hcw 2 (by decide)
      have e3 : wr.cell? ⟨b2, off2 + j * 6 + 3, none⟩ = some (.bool y.s) := hcw 3 (by decide)
      have e4 : wr.cell? ⟨b2, off2 + j * 6 + 4, none⟩ = some (.slice y.a y.l y.c) := hcw 4 (by decide)
      have e5 : wr.cell? ⟨b2, off2 + j * 6 + 5, none⟩ = some (.slice y.ka y.kn y.kc) := hcw 5 (by decide)
      have hi2 : (j : Int) < (kn : Int) := by omega
      have b3 := below_alloc wr (.cells #[.int .i64 y.k, .string y.nm, .slice y.na y.nn y.nc, .bool y.s, .slice y.a y.l y.c, .slice y.ka y.kn y.kc] 28)
      have y3 := vb_new wr y
      have hs3 := hs2.out.below b3
      have y5 := y3.c5
      have hwj : IntKind.i64.wrap ((j : Int) + 1) = ((j + 1 : Nat) : Int) := by
       rw [IntKind.wrap_i64]
       omega
      obtain ⟨lu, ku, rfl⟩ := rt_of hy
      have hky := (rt_nd hy).2
      replace hs3 := hide hs3
      replace hky := hide hky
      replace y3 := hide y3
      clear hs2 hcw hcy hc hy b3 hbl2 y5
      iterate 34 (first | go_skip | go_guarded | go_step | go_upon | go_simp)
      clear e0 e1 e2 e3 e4 e5
      generalize wr.alloc (.cells #[.int .i64 y.k, .string y.nm, .slice y.na y.nn y.nc, .bool y.s, .slice y.a y.l y.c, .slice y.ka y.kn y.kc] 28) = w1 at *
      generalize wr.heap.size = bv at *
      have c5 := y3.out.c5
      have ho1 := hide (hs3.out.own.alloc (.cells #[.slice y.ka y.kn y.kc] 26))
      have b5 := below_alloc w1 (.cells #[.slice y.ka y.kn y.kc] 26)
      have hc5 : Hid ((w1.alloc (.cells #[.slice y.ka y.kn y.kc] 26)).cell? ⟨w1.heap.size, 0, none⟩ = some (SlT.val ⟨y.ka, y.kn, y.kc⟩)) := hide (cell_of_row _ w1.heap.size 0 _ _ (0, 0) (heap_alloc_new w1 _))
      have hz5 : wa.heap.size ≤ (w1.alloc (.cells #[.slice y.ka y.kn y.kc] 26)).heap.size := Nat.le_trans hs3.out.bl.size b5.size
      have hs5 := hide (hs3.out.below b5)
      have hq2 : q2.length ≤ 3000 := by
       rw [hs3.out.pr.1]
       omega
      clear b5 y3 hs3
      go_wp2_with (refine appSl rfl _ _ rfl wa.heap.size _ q2.length q2 rfl ho1.out ⟨y.ka, y.kn, y.kc⟩ w1.heap.size rfl hc5.out (by omega) hz5 ?_)
      intro v' w6 ho6 hg6 hb6
      replace ho6 : w6.ownsRow wa.heap.size 26 1 v' (q2.length + 1) ((q2 ++ [(⟨y.ka, y.kn, y.kc⟩ : SlT)]).map SlT.val) := by rw [List.map_append]; exact ho6
      have hnew := hs5.out.put (s := ⟨y.ka, y.kn, y.kc⟩) hky.out (fun v hv => dp_kid hdu (by rw [ksO_nd]; exact hv)) (by omega) ho6 hg6
      rw [show cc + kn + cnL f LL'.flatten + blw f (L.take j) + cnL f ku = cc + kn + cnL f LL'.flatten + blw f (L.take (j + 1)) by
       rw [hone]
       unfold blw
       rw [List.map_append, List.flatten_append, cnL_append, Nat.add_assoc]
       simp [ksO_nd]] at hnew
      replace hnew := hide hnew
      obtain ⟨-, av6, cv6, rfl, -⟩ := own_sl ho6
      clear ho6 hg6 hb6 ho1 hc5 hs5 hky c5
      go_wp2
      go_roundw
      case measure => simp [intOf]; omega
      case rel => exact ⟨j + 1, q2 ++ [⟨y.ka, y.kn, y.kc⟩], LL2 ++ [ku], by omega, rfl, by simp; omega, hnew⟩
     ·obtain rfl : j = kn := by omega
      have hlt2 : decide ((j : Int) < (j : Int)) = false := by simp
      have hsum2 := hs2.out.sum
      rw [show L.take j = L by rw [← hLn.out]; exact List.take_length] at hsum2
      have hLn2 := hLn.out
      have hnew : Hid (SzS f N wa u4 (cc + j) wr q2 LL2) := hide { hs2.out with sum := by omega }
      clear hs2
      go_wp2
      go_roundg (gk - 1)
      case measure => omega
      case rel => exact ⟨cc + j, q2, LL2, by simp, by omega, by omega, hnew⟩
end Sx
end Go.Proofs.YtgpaajolcpgeaaaGreatDoor

namespace Go.Proofs.YtgpaajolcpgeaaaGreatDoor
open Go.RowKit
namespace Sx

/-- what a kind has -/
structure Shp where
 is : Int
 kids : Int
 few : Int
 many : Int
 number : Bool
 name : Bool
 names : Bool
abbrev shV (s : Shp) : Value := .agg #[.int .i64 s.is, .int .i64 s.kids, .int .i64 s.few, .int .i64 s.many, .bool s.number, .bool s.name, .bool s.names]
def shp (k : Int) : Shp :=
 if k = 1 then ⟨1, 0, 0, 0, true, false, false⟩ else
 if k = 2 then ⟨1, 0, 0, 0, false, true, false⟩ else
 if k = 3 then ⟨1, 1, 1, 1, false, false, false⟩ else
 if k = 4 then ⟨1, 1, 2, 2, false, false, false⟩ else
 if k = 5 then ⟨1, 1, 2, 2, false, false, false⟩ else
 if k = 6 then ⟨1, 1, 1, 1, true, false, false⟩ else
 if k = 7 then ⟨2, 0, 0, 0, false, false, false⟩ else
 if k = 8 then ⟨2, 0, 0, 0, false, false, false⟩ else
 if k = 9 then ⟨2, 1, 2, 2, false, false, false⟩ else
 if k = 10 then ⟨2, 1, 2, 2, false, false, false⟩ else
 if k = 11 then ⟨2, 1, 2, 2, false, false, false⟩ else
 if k = 12 then ⟨2, 1, 2, 2, false, false, false⟩ else
 if k = 13 then ⟨2, 1, 2, 2, false, false, false⟩ else
 if k = 14 then ⟨2, 1, 2, 2, false, false, false⟩ else
 if k = 15 then ⟨2, 1, 1, 1, true, false, false⟩ else
 if k = 16 then ⟨2, 2, 1, 1, false, false, false⟩ else
 if k = 17 then ⟨2, 2, 2, 9223372036854775807, false, false, false⟩ else
 if k = 18 then ⟨2, 2, 2, 9223372036854775807, false, false, false⟩ else
 if k = 19 then ⟨2, 2, 2, 2, false, false, false⟩ else
 if k = 20 then ⟨2, 2, 2, 2, false, false, false⟩ else
 if k = 21 then ⟨2, 2, 1, 1, false, false, true⟩ else
 if k = 22 then ⟨2, 2, 1, 1, false, false, true⟩ else
 ⟨0, 0, 0, 0, false, false, false⟩
/-- what shapeOf answers -/
def ShR (w : World) (k : Int) (en : Ending) (w' : World) : Prop := en = .returned (shV (shp k)) ∧ Below w.heap.size w w'
set_option maxRecDepth 100000 in
set_option maxHeartbeats 1600000 in
theorem shapeOf_1 (w : World) : Calls Tryz.prog 43 #[.int .i64 1] w fun en w' => ShR w 1 en w' := by
 go_enter Tryz.func43, Tryz.ntmps43
 go_wp2
 exact bodyPost_ret (results_cell_row rfl _ _ w.heap.size 76 _ (0, 0) _ rfl (heap_alloc_new w _) Tryz.underlying76 rfl (by kernel_rfl)) rfl ⟨by simp [shp], below_alloc w _⟩
set_option maxRecDepth 100000 in
set_option maxHeartbeats 1600000 in
theorem shapeOf_2 (w : World) : Calls Tryz.prog 43 #[.int .i64 2] w fun en w' => ShR w 2 en w' := by
 go_enter Tryz.func43, Tryz.ntmps43
 go_wp2
 exact bodyPost_ret (results_cell_row rfl _ _ w.heap.size 76 _ (0, 0) _ rfl (heap_alloc_new w _) Tryz.underlying76 rfl (by kernel_rfl)) rfl ⟨by simp [shp], below_alloc w _⟩
set_option maxRecDepth 100000 in
set_option maxHeartbeats 1600000 in
theorem shapeOf_3 (w : World) : Calls Tryz.prog 43 #[.int .i64 3] w fun en w' => ShR w 3 en w' := by
 go_enter Tryz.func43, Tryz.ntmps43
 go_wp2
 exact bodyPost_ret (results_cell_row rfl _ _ w.heap.size 76 _ (0, 0) _ rfl (heap_alloc_new w _) Tryz.underlying76 rfl (by kernel_rfl)) rfl ⟨by simp [shp], below_alloc w _⟩
set_option maxRecDepth 100000 in
set_option maxHeartbeats 1600000 in
theorem shapeOf_4 (w : World) : Calls Tryz.prog 43 #[.int .i64 4] w fun en w' => ShR w 4 en w' := by
 go_enter Tryz.func43, Tryz.ntmps43
 go_wp2
 exact bodyPost_ret (results_cell_row rfl _ _ w.heap.size 76 _ (0, 0) _ rfl (heap_alloc_new w _) Tryz.underlying76 rfl (by kernel_rfl)) rfl ⟨by simp [shp], below_alloc w _⟩
set_option maxRecDepth 100000 in
set_option maxHeartbeats 1600000 in
theorem shapeOf_5 (w : World) : Calls Tryz.prog 43 #[.int .i64 5] w fun en w' => ShR w 5 en w' := by
 go_enter Tryz.func43, Tryz.ntmps43
 go_wp2
 exact bodyPost_ret (results_cell_row rfl _ _ w.heap.size 76 _ (0, 0) _ rfl (heap_alloc_new w _) Tryz.underlying76 rfl (by kernel_rfl)) rfl ⟨by simp [shp], below_alloc w _⟩
set_option maxRecDepth 100000 in
set_option maxHeartbeats 1600000 in
theorem shapeOf_6 (w : World) : Calls Tryz.prog 43 #[.int .i64 6] w fun en w' => ShR w 6 en w' := by
 go_enter Tryz.func43, Tryz.ntmps43
 go_wp2
 exact bodyPost_ret (results_cell_row rfl _ _ w.heap.size 76 _ (0, 0) _ rfl (heap_alloc_new w _) Tryz.underlying76 rfl (by kernel_rfl)) rfl ⟨by simp [shp], below_alloc w _⟩
set_option maxRecDepth 100000 in
set_option maxHeartbeats 1600000 in
theorem shapeOf_7 (w : World) : Calls Tryz.prog 43 #[.int .i64 7] w fun en w' => ShR w 7 en w' := by
 go_enter Tryz.func43, Tryz.ntmps43
 go_wp2
 exact bodyPost_ret (results_cell_row rfl _ _ w.heap.size 76 _ (0, 0) _ rfl (heap_alloc_new w _) Tryz.underlying76 rfl (by kernel_rfl)) rfl ⟨by simp [shp], below_alloc w _⟩
set_option maxRecDepth 100000 in
set_option maxHeartbeats 1600000 in
theorem shapeOf_8 (w : World) : Calls Tryz.prog 43 #[.int .i64 8] w fun en w' => ShR w 8 en w' := by
 go_enter Tryz.func43, Tryz.ntmps43
 go_wp2
 exact bodyPost_ret (results_cell_row rfl _ _ w.heap.size 76 _ (0, 0) _ rfl (heap_alloc_new w _) Tryz.underlying76 rfl (by kernel_rfl)) rfl ⟨by simp [shp], below_alloc w _⟩
set_option maxRecDepth 100000 in
set_option maxHeartbeats 1600000 in
theorem shapeOf_9 (w : World) : Calls Tryz.prog 43 #[.int .i64 9] w fun en w' => ShR w 9 en w' := by
 go_enter Tryz.func43, Tryz.ntmps43
 go_wp2
 exact bodyPost_ret (results_cell_row rfl _ _ w.heap.size 76 _ (0, 0) _ rfl (heap_alloc_new w _) Tryz.underlying76 rfl (by kernel_rfl)) rfl ⟨by simp [shp], below_alloc w _⟩
set_option maxRecDepth 100000 in
set_option maxHeartbeats 1600000 in
theorem shapeOf_10 (w : World) : Calls Tryz.prog 43 #[.int .i64 10] w fun en w' => ShR w 10 en w' := by
 go_enter Tryz.func43, Tryz.ntmps43
 go_wp2
 exact bodyPost_ret (results_cell_row rfl _ _ w.heap.size 76 _ (0, 0) _ rfl (heap_alloc_new w _) Tryz.underlying76 rfl (by kernel_rfl)) rfl ⟨by simp [shp], below_alloc w _⟩
set_option maxRecDepth 100000 in
set_option maxHeartbeats 1600000 in
theorem shapeOf_11 (w : World) : Calls Tryz.prog 43 #[.int .i64 11] w fun en w' => ShR w 11 en w' := by
 go_enter Tryz.func43, Tryz.ntmps43
 go_wp2
 exact bodyPost_ret (results_cell_row rfl _ _ w.heap.size 76 _ (0, 0) _ rfl (heap_alloc_new w _) Tryz.underlying76 rfl (by kernel_rfl)) rfl ⟨by simp [shp], below_alloc w _⟩
set_option maxRecDepth 100000 in
set_option maxHeartbeats 1600000 in
theorem shapeOf_12 (w : World) : Calls Tryz.prog 43 #[.int .i64 12] w fun en w' => ShR w 12 en w' := by
 go_enter Tryz.func43, Tryz.ntmps43
 go_wp2
 exact bodyPost_ret (results_cell_row rfl _ _ w.heap.size 76 _ (0, 0) _ rfl (heap_alloc_new w _) Tryz.underlying76 rfl (by kernel_rfl)) rfl ⟨by simp [shp], below_alloc w _⟩
set_option maxRecDepth 100000 in
set_option maxHeartbeats 1600000 in
theorem shapeOf_13 (w : World) : Calls Tryz.prog 43 #[.int .i64 13] w fun en w' => ShR w 13 en w' := by
 go_enter Tryz.func43, Tryz.ntmps43
 go_wp2
 exact bodyPost_ret (results_cell_row rfl _ _ w.heap.size 76 _ (0, 0) _ rfl (heap_alloc_new w _) Tryz.underlying76 rfl (by kernel_rfl)) rfl ⟨by simp [shp], below_alloc w _⟩
set_option maxRecDepth 100000 in
set_option maxHeartbeats 1600000 in
theorem shapeOf_14 (w : World) : Calls Tryz.prog 43 #[.int .i64 14] w fun en w' => ShR w 14 en w' := by
 go_enter Tryz.func43, Tryz.ntmps43
 go_wp2
 exact bodyPost_ret (results_cell_row rfl _ _ w.heap.size 76 _ (0, 0) _ rfl (heap_alloc_new w _) Tryz.underlying76 rfl (by kernel_rfl)) rfl ⟨by simp [shp], below_alloc w _⟩
set_option maxRecDepth 100000 in
set_option maxHeartbeats 1600000 in
theorem shapeOf_15 (w : World) : Calls Tryz.prog 43 #[.int .i64 15] w fun en w' => ShR w 15 en w' := by
 go_enter Tryz.func43, Tryz.ntmps43
 go_wp2
 exact bodyPost_ret (results_cell_row rfl _ _ w.heap.size 76 _ (0, 0) _ rfl (heap_alloc_new w _) Tryz.underlying76 rfl (by kernel_rfl)) rfl ⟨by simp [shp], below_alloc w _⟩
set_option maxRecDepth 100000 in
set_option maxHeartbeats 1600000 in
theorem shapeOf_16 (w : World) : Calls Tryz.prog 43 #[.int .i64 16] w fun en w' => ShR w 16 en w' := by
 go_enter Tryz.func43, Tryz.ntmps43
 go_wp2
 exact bodyPost_ret (results_cell_row rfl _ _ w.heap.size 76 _ (0, 0) _ rfl (heap_alloc_new w _) Tryz.underlying76 rfl (by kernel_rfl)) rfl ⟨by simp [shp], below_alloc w _⟩
set_option maxRecDepth 100000 in
set_option maxHeartbeats 1600000 in
theorem shapeOf_17 (w : World) : Calls Tryz.prog 43 #[.int .i64 17] w fun en w' => ShR w 17 en w' := by
 go_enter Tryz.func43, Tryz.ntmps43
 go_wp2
 exact bodyPost_ret (results_cell_row rfl _ _ w.heap.size 76 _ (0, 0) _ rfl (heap_alloc_new w _) Tryz.underlying76 rfl (by kernel_rfl)) rfl ⟨by simp [shp], below_alloc w _⟩
set_option maxRecDepth 100000 in
set_option maxHeartbeats 1600000 in
theorem shapeOf_18 (w : World) : Calls Tryz.prog 43 #[.int .i64 18] w fun en w' => ShR w 18 en w' := by
 go_enter Tryz.func43, Tryz.ntmps43
 go_wp2
 exact bodyPost_ret (results_cell_row rfl _ _ w.heap.size 76 _ (0, 0) _ rfl (heap_alloc_new w _) Tryz.underlying76 rfl (by kernel_rfl)) rfl ⟨by simp [shp], below_alloc w _⟩
set_option maxRecDepth 100000 in
set_option maxHeartbeats 1600000 in
theorem shapeOf_19 (w : World) : Calls Tryz.prog 43 #[.int .i64 19] w fun en w' => ShR w 19 en w' := by
 go_enter Tryz.func43, Tryz.ntmps43
 go_wp2
 exact bodyPost_ret (results_cell_row rfl _ _ w.heap.size 76 _ (0, 0) _ rfl (heap_alloc_new w _) Tryz.underlying76 rfl (by kernel_rfl)) rfl ⟨by simp [shp], below_alloc w _⟩
set_option maxRecDepth 100000 in
set_option maxHeartbeats 1600000 in
theorem shapeOf_20 (w : World) : Calls Tryz.prog 43 #[.int .i64 20] w fun en w' => ShR w 20 en w' := by
 go_enter Tryz.func43, Tryz.ntmps43
 go_wp2
 exact bodyPost_ret (results_cell_row rfl _ _ w.heap.size 76 _ (0, 0) _ rfl (heap_alloc_new w _) Tryz.underlying76 rfl (by kernel_rfl)) rfl ⟨by simp [shp], below_alloc w _⟩
set_option maxRecDepth 100000 in
set_option maxHeartbeats 1600000 in
theorem shapeOf_21 (w : World) : Calls Tryz.prog 43 #[.int .i64 21] w fun en w' => ShR w 21 en w' := by
 go_enter Tryz.func43, Tryz.ntmps43
 go_wp2
 exact bodyPost_ret (results_cell_row rfl _ _ w.heap.size 76 _ (0, 0) _ rfl (heap_alloc_new w _) Tryz.underlying76 rfl (by kernel_rfl)) rfl ⟨by simp [shp], below_alloc w _⟩
set_option maxRecDepth 100000 in
set_option maxHeartbeats 1600000 in
theorem shapeOf_22 (w : World) : Calls Tryz.prog 43 #[.int .i64 22] w fun en w' => ShR w 22 en w' := by
 go_enter Tryz.func43, Tryz.ntmps43
 go_wp2
 exact bodyPost_ret (results_cell_row rfl _ _ w.heap.size 76 _ (0, 0) _ rfl (heap_alloc_new w _) Tryz.underlying76 rfl (by kernel_rfl)) rfl ⟨by simp [shp], below_alloc w _⟩
set_option maxRecDepth 100000 in
set_option maxHeartbeats 1600000 in
theorem shapeOf_else {k : Int} (h1 : k ≠ 1) (h2 : k ≠ 2) (h3 : k ≠ 3) (h4 : k ≠ 4) (h5 : k ≠ 5) (h6 : k ≠ 6) (h7 : k ≠ 7) (h8 : k ≠ 8) (h9 : k ≠ 9) (h10 : k ≠ 10) (h11 : k ≠ 11) (h12 : k ≠ 12) (h13 : k ≠ 13) (h14 : k ≠ 14) (h15 : k ≠ 15) (h16 : k ≠ 16) (h17 : k ≠ 17) (h18 : k ≠ 18) (h19 : k ≠ 19) (h20 : k ≠ 20) (h21 : k ≠ 21) (h22 : k ≠ 22) (w : World) : Calls Tryz.prog 43 #[.int .i64 k] w fun en w' => ShR w k en w' := by
 have hsh : shp k = ⟨0, 0, 0, 0, false, false, false⟩ := by simp [shp, h1, h2, h3, h4, h5, h6, h7, h8, h9, h10, h11, h12, h13, h14, h15, h16, h17, h18, h19, h20, h21, h22]
 have e1 : (k == 1) = false := by simpa using h1
 have e2 : (k == 2) = false := by simpa using h2
 have e3 : (k == 3) = false := by simpa using h3
 have e4 : (k == 4) = false := by simpa using h4
 have e5 : (k == 5) = false := by simpa using h5
 have e6 : (k == 6) = false := by simpa using h6
 have e7 : (k == 7) = false := by simpa using h7
 have e8 : (k == 8) = false := by simpa using h8
 have e9 : (k == 9) = false := by simpa using h9
 have e10 : (k == 10) = false := by simpa using h10
 have e11 : (k == 11) = false := by simpa using h11
 have e12 : (k == 12) = false := by simpa using h12
 have e13 : (k == 13) = false := by simpa using h13
 have e14 : (k == 14) = false := by simpa using h14
 have e15 : (k == 15) = false := by simpa using h15
 have e16 : (k == 16) = false := by simpa using h16
 have e17 : (k == 17) = false := by simpa using h17
 have e18 : (k == 18) = false := by simpa using h18
 have e19 : (k == 19) = false := by simpa using h19
 have e20 : (k == 20) = false := by simpa using h20
 have e21 : (k == 21) = false := by simpa using h21
 have e22 : (k == 22) = false := by simpa using h22
 clear h1 h2 h3 h4 h5 h6 h7 h8 h9 h10 h11 h12 h13 h14 h15 h16 h17 h18 h19 h20 h21 h22
 replace hsh := hide hsh
 go_enter Tryz.func43, Tryz.ntmps43
 go_wp2
 exact bodyPost_ret (results_cell_row rfl _ _ w.heap.size 76 _ (0, 0) _ rfl (heap_alloc_new w _) Tryz.underlying76 rfl (by kernel_rfl)) rfl ⟨by rw [hsh.out], below_alloc w _⟩
theorem shapeOf_n (k : Int) (w : World) : Calls Tryz.prog 43 #[.int .i64 k] w fun en w' => ShR w k en w' := by
 by_cases h1 : k = 1
 ·subst h1
  exact shapeOf_1 w
 by_cases h2 : k = 2
 ·subst h2
  exact shapeOf_2 w
 by_cases h3 : k = 3
 ·subst h3
  exact shapeOf_3 w
 by_cases h4 : k = 4
 ·subst h4
  exact shapeOf_4 w
 by_cases h5 : k = 5
 ·subst h5
  exact shapeOf_5 w
 by_cases h6 : k = 6
 ·subst h6
  exact shapeOf_6 w
 by_cases h7 : k = 7
 ·subst h7
  exact shapeOf_7 w
 by_cases h8 : k = 8
 ·subst h8
  exact shapeOf_8 w
 by_cases h9 : k = 9
 ·subst h9
  exact shapeOf_9 w
 by_cases h10 : k = 10
 ·subst h10
  exact shapeOf_10 w
 by_cases h11 : k = 11
 ·subst h11
  exact shapeOf_11 w
 by_cases h12 : k = 12
 ·subst h12
  exact shapeOf_12 w
 by_cases h13 : k = 13
 ·subst h13
  exact shapeOf_13 w
 by_cases h14 : k = 14
 ·subst h14
  exact shapeOf_14 w
 by_cases h15 : k = 15
 ·subst h15
  exact shapeOf_15 w
 by_cases h16 : k = 16
 ·subst h16
  exact shapeOf_16 w
 by_cases h17 : k = 17
 ·subst h17
  exact shapeOf_17 w
 by_cases h18 : k = 18
 ·subst h18
  exact shapeOf_18 w
 by_cases h19 : k = 19
 ·subst h19
  exact shapeOf_19 w
 by_cases h20 : k = 20
 ·subst h20
  exact shapeOf_20 w
 by_cases h21 : k = 21
 ·subst h21
  exact shapeOf_21 w
 by_cases h22 : k = 22
 ·subst h22
  exact shapeOf_22 w
 exact shapeOf_else h1 h2 h3 h4 h5 h6 h7 h8 h9 h10 h11 h12 h13 h14 h15 h16 h17 h18 h19 h20 h21 h22 w
/-- is it a quantifier's kind? -/
def qnt (k : Int) : Bool := k == 21 || k == 22
set_option maxRecDepth 100000 in
theorem isQuantifier_n (k : Int) (w : World) : Calls Tryz.prog 76 #[.int .i64 k] w fun en w' => en = .returned (.bool (qnt k)) ∧ w = w' := by
 go_enter Tryz.func76, Tryz.ntmps76
 by_cases h : k = 21
 ·subst h
  go_wp2
  exact bodyPost_ret (results_tmp rfl _ _ _) rfl ⟨rfl, rfl⟩
 ·have h1 : (k == 21) = false := by simpa using h
  by_cases h2 : k = 22
  ·subst h2
   go_wp2
   exact bodyPost_ret (results_tmp rfl _ _ _) rfl ⟨rfl, rfl⟩
  ·have h3 : (k == 22) = false := by simpa using h2
   have hq : Hid (qnt k = false) := hide (by simp [qnt, h1, h3])
   go_wp2
   exact bodyPost_ret (results_tmp rfl _ _ _) rfl ⟨by rw [hq.out]; rfl, rfl⟩
end Sx
end Go.Proofs.YtgpaajolcpgeaaaGreatDoor

namespace Go.Proofs.YtgpaajolcpgeaaaGreatDoor
open Go.RowKit
namespace Sx

/-- a list of kids in a scope -/
def vwV (a : Option Addr) (n : Nat) (s : Int) : Value := .agg #[.pointer a, .int .i64 n, .int .i64 s]
theorem vpart_0 (a : Option Addr) (n s : Int) (w : World) : (part 89 #[.pointer a, .int .i64 n, .int .i64 s] 0).run Tryz.prog w = .ok (.agg #[.pointer a, .int .i64 n]) w := by kernel_rfl
theorem vpart_1 (a : Option Addr) (n s : Int) (w : World) : (part 3 #[.pointer a, .int .i64 n, .int .i64 s] 2).run Tryz.prog w = .ok (.int .i64 s) w := by kernel_rfl
def VwK (F : Nat → Prop) (w : World) (v : Value) : Prop := ∃ a n s, v = vwV a n s ∧ Un F w a
theorem chk_vw (em : Bool) (a : Option Addr) (n : Nat) (s : Int) (w : World) : (Instr.checkKey em 10000 172 (vwV a n s)).run Tryz.prog w = .ok () w := by
 have h : ∀ d : Nat, (Instr.checkKey em (d + 1 + 1 + 1) 172 (vwV a n s)).run Tryz.prog w = .ok () w := fun d => by
  simp [Instr.checkKey, run_underlying Tryz.underlying172, run_underlying Tryz.underlying89, run_underlying Tryz.underlying3, run_underlying Tryz.underlying87, vpart_0, vpart_1, part_0, part_1, vwV]
 exact h 9997
theorem eq_vw {F : Nat → Prop} {w : World} {a b : Option Addr} (n m : Nat) (s t : Int) (ha : Un F w a) (hb : Un F w b) : (Op.equal 172 (vwV a n s) (vwV b m t)).run Tryz.prog w = .ok ((decide (a = b) && ((n : Int) == (m : Int))) && (s == t)) w := by
 have hst : (Tryz.prog.stoodInHeld 172) = false := by kernel_rfl
 have hst2 : (Tryz.prog.stoodInHeld 89) = false := by kernel_rfl
 have h : ∀ d : Nat, (Op.equalIn (d + 1 + 1 + 1) 172 (vwV a n s) (vwV b m t)).run Tryz.prog w = .ok ((decide (a = b) && ((n : Int) == (m : Int))) && (s == t)) w := fun d => by
  have h1 := eq_ptr ha hb d
  have h2 := eq_i n m w d
  have h3 : (Op.equalIn (d + 2) 3 (.int .i64 s) (.int .i64 t)).run Tryz.prog w = .ok (s == t) w := eq_i s t w (d + 1)
  have g : (Op.equalIn (d + 2) 89 (.agg #[.pointer a, .int .i64 n]) (.agg #[.pointer b, .int .i64 m])).run Tryz.prog w = .ok (decide (a = b) && ((n : Int) == (m : Int))) w := by
   rw [Op.equalIn]
   simp [run_underlying Tryz.underlying89, hst2, part_0, part_1, h1, h2]
   by_cases e1 : a = b
   ·by_cases e2 : (n : Int) = (m : Int)
    ·simp [e1, e2]
    ·simp [e1, e2]
   ·simp [e1]
  rw [Op.equalIn]
  simp only [vwV]
  generalize (decide (a = b) && ((n : Int) == (m : Int))) = x1 at *
  generalize (s == t) = x2 at *
  cases x1 <;> cases x2 <;> simp [run_underlying Tryz.underlying172, hst, vpart_0, vpart_1, g, h3]
 exact h 9997
theorem ky_view (F : Nat → Prop) (w : World) : Ky 172 (VwK F w) w := ky_wide (fun x es => run_findKey_eq w (by rw [Tryz.underlying172]) x es) (by
  rintro v em ⟨a, n, s, rfl, -⟩
  exact chk_vw em a n s w) (by
  rintro v u ⟨a, n, s, rfl, ha⟩ ⟨b, m, t, rfl, hb⟩
  refine ⟨_, eq_vw n m s t ha hb, ?_⟩
  simp [vwV]
  constructor
  ·rintro ⟨⟨h1, h2⟩, h3⟩
   exact ⟨h1, h2, h3⟩
  ·rintro ⟨h1, h2, h3⟩
   exact ⟨⟨h1, h2⟩, h3⟩) (by
  rintro v ⟨a, n, s, rfl, -⟩
  have h : ∀ d : Nat, Instr.sameBits (d + 1) (vwV a n s) (vwV a n s) = true := fun d => by simp [Instr.sameBits, vwV]
  exact h 9999)
theorem VwK.kept {F : Nat → Prop} {w w' : World} {v : Value} (h : VwK F w v) (hb : ∀ b, F b → Ub w b → w'.heap[b]? = w.heap[b]?) : VwK F w' v := by
 obtain ⟨a, n, s, e, h⟩ := h
 exact ⟨a, n, s, e, h.kept hb⟩
/-- the lists that were seen -/
abbrev Met3 (F : Nat → Prop) (w : World) (m : Nat) (E : List (Value × Value)) : Prop := Mp (VwK F w) w m E
theorem Met3.kf {F : Nat → Prop} {w w' : World} {m : Nat} {E : List (Value × Value)} (h : Met3 F w m E) (hm : w'.heap[m]? = w.heap[m]?) (k : Kf F w w') : Met3 F w' m E := (Mp.kept h hm).imp fun _ hv => hv.kept fun b hb hu => k.block b hb hu.lt
theorem Met3.put {F : Nat → Prop} {w : World} {m : Nat} {E : List (Value × Value)} (h : Met3 F w m E) {t e : TypeId} (ht : Tryz.prog.underlying t = some (.map 172 e)) {x : Value} (hx : VwK F w x) (v : Value) :
  ∃ w' E', (Instr.mapUpdate t (.map (some m)) x v).run Tryz.prog w = .ok () w' ∧ PutE x v E E' ∧ Met3 F w' m E' ∧ w.grownBy w' (some m) := by
 obtain ⟨w', E', h1, h2, h3, h4⟩ := Mp.put h (ky_view F w) ht hx v
 exact ⟨w', E', h1, h2, h3.imp fun v hv => hv.kept fun b _ hu => h4.block b hu.lt fun e => ub_not_map h hu (Option.some.inj e), h4⟩
/-- a name in a scope -/
def bnV (s : Int) (n : ByteArray) : Value := .agg #[.int .i64 s, .string n]
def BnK (v : Value) : Prop := ∃ s n, v = bnV s n
theorem bpart_0 (s : Int) (n : ByteArray) (w : World) : (part 3 #[.int .i64 s, .string n] 0).run Tryz.prog w = .ok (.int .i64 s) w := by kernel_rfl
theorem bpart_1 (s : Int) (n : ByteArray) (w : World) : (part 9 #[.int .i64 s, .string n] 1).run Tryz.prog w = .ok (.string n) w := by kernel_rfl
theorem chk_bn (em : Bool) (s : Int) (n : ByteArray) (w : World) : (Instr.checkKey em 10000 185 (bnV s n)).run Tryz.prog w = .ok () w := by
 have h : ∀ d : Nat, (Instr.checkKey em (d + 1 + 1) 185 (bnV s n)).run Tryz.prog w = .ok () w := fun d => by
  simp [Instr.checkKey, run_underlying Tryz.underlying185, run_underlying Tryz.underlying3, run_underlying Tryz.underlying9, bpart_0, bpart_1, bnV]
 exact h 9998
theorem eq_s (a b : ByteArray) (w : World) (d : Nat) : (Op.equalIn (d + 1) 9 (.string a) (.string b)).run Tryz.prog w = .ok (a == b) w := by
 simp [Op.equalIn, run_underlying Tryz.underlying9]
theorem ba_beq {n m : ByteArray} : (n == m) = true ↔ n = m := by
 obtain ⟨a⟩ := n
 obtain ⟨b⟩ := m
 rw [show ((⟨a⟩ : ByteArray) == ⟨b⟩) = (a == b) from rfl, beq_iff_eq]
 simp
theorem eq_bn (s t : Int) (n m : ByteArray) (w : World) : (Op.equal 185 (bnV s n) (bnV t m)).run Tryz.prog w = .ok ((s == t) && (n == m)) w := by
 have hst : (Tryz.prog.stoodInHeld 185) = false := by kernel_rfl
 have h : ∀ d : Nat, (Op.equalIn (d + 1 + 1) 185 (bnV s n) (bnV t m)).run Tryz.prog w = .ok ((s == t) && (n == m)) w := fun d => by
  have h1 := eq_i s t w d
  have h2 := eq_s n m w d
  rw [Op.equalIn]
  simp only [bnV]
  generalize (n == m) = x at *
  generalize (s == t) = x2 at *
  cases x <;> cases x2 <;> simp [run_underlying Tryz.underlying185, hst, bpart_0, bpart_1, h1, h2]
 exact h 9998
theorem ky_bind (w : World) : Ky 185 BnK w := ky_wide (fun x es => run_findKey_eq w (by rw [Tryz.underlying185]) x es) (by
  rintro v em ⟨s, n, rfl⟩
  exact chk_bn em s n w) (by
  rintro v u ⟨s, n, rfl⟩ ⟨t, m, rfl⟩
  refine ⟨_, eq_bn s t n m w, ?_⟩
  rw [Bool.and_eq_true, ba_beq, beq_iff_eq]
  simp [bnV]) (by
  rintro v ⟨s, n, rfl⟩
  have h : ∀ d : Nat, Instr.sameBits (d + 1) (bnV s n) (bnV s n) = true := fun d => by simp [Instr.sameBits, bnV, ba_beq]
  exact h 9999)
/-- keys that are texts -/
def StK (v : Value) : Prop := ∃ n : ByteArray, v = .string n ∧ n.size ≤ 1073741824
theorem ky_str (w : World) : Ky 9 StK w := by
 have K := ky_of (Maps.string_keyed Tryz.underlying9) w
 have mv : ∀ v, StK v → ∃ l, keyOf Tryz.prog 9 v = some l := by
  rintro v ⟨n, rfl, hn⟩
  exact ⟨_, WideMaps.keyOf_string_mk Tryz.underlying9 (by unfold maxLen; omega)⟩
 exact ⟨fun v em h => K.chk v em (mv v h), fun x es h h2 => K.find x es (mv x h) fun e he => mv _ (h2 e he), fun v h => K.stays v (mv v h)⟩
end Sx
end Go.Proofs.YtgpaajolcpgeaaaGreatDoor
