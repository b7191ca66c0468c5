/-
 Several texts in one: RF, X8.
-/
import Derived.RangeFuncNested
import Derived.RangeFuncBound
import Derived.RangeFuncCalls
import Derived.RangeFuncLeaves
import Derived.Shelf.Abstract
import Derived.Shelf.RegionOpen
import Derived.WalkKit
import Derived.OwnWalkIn
import Derived.TacticsInMore
import Derived.LoopNIn
import Derived.LoopIn
import Derived.Test.YtgpaajolcpgeaaaGreatDoorSrd07
namespace Go.Proofs.YtgpaajolcpgeaaaGreatDoor
open Go.RowKit Go.Shelf

/-- what such a loop has in memory -/
def lrec (fn : FuncId) (tmps : Array Value) (ps : Array Tmp) (assign body : Code) (D : Nat) (st : LoopState) (pe : Option Code) : Loop :=
 { state := st, pending := pe, fn := fn, tmps := tmps, params := ps, assign := assign, body := body, defers := D }

/-- the function is called with the loop's own yield; when it is back, the loop goes on behind, or takes the jump that a round has left by -/
theorem range_enter {P : Program} {n : Nat} {g : Operand} {ps : Array Tmp} {assign body : Code} {Q : Exit → Act → World → Prop} {a : Act} {w : World} {gf : Nat} {lb : Array Value}
  (hg : a.eval g = .func (.func gf) #[] lb) (eg : ∀ args w, (callFunc gf args).run P w = .ok (.enter gf args) w)
  (h : ∀ fn r, lrec fn a.tmps ps assign body w.heap.size .ready none = r → CallsIn Fence.wide (n - 1) P gf (#[.func (.yield (w.heap.size + 1)) #[] #[]] ++ lb) ((w.alloc (.deferred (some []))).alloc (.loop r)) fun e W =>
   (∃ v, e = .returned v) ∧ ((W.heap[w.heap.size + 1]? = some (.loop r) ∧
     Q .normal { a with defers := { target := .collected w.heap.size, args := #[] } :: a.defers } (W.putObj (w.heap.size + 1) (.loop { r with state := .exhausted }))) ∨
    ∃ c, W.heap[w.heap.size + 1]? = some (.loop { r with state := .done, pending := some c }) ∧
     c.wpIn Fence.wide n P Q { a with defers := { target := .collected w.heap.size, args := #[] } :: a.defers } (W.putObj (w.heap.size + 1) (.loop { r with state := .exhausted, pending := some c })))) :
  (Code.rangeFunc g ps assign body).wpIn Fence.wide n P Q a w := by
 refine wpIn_rangeFunc fun fn _ => ?_
 let W1 := (w.alloc (.deferred (some []))).alloc (.loop (lrec fn a.tmps ps assign body w.heap.size .ready none))
 refine ⟨w.heap.size + 1, [{ target := .collected w.heap.size, args := #[] }], W1, { target := .fn (.func gf) lb, args := #[.func (.yield (w.heap.size + 1)) #[] #[]] }, W1, gf, #[.func (.yield (w.heap.size + 1)) #[] #[]] ++ lb, W1,
  run_enterLoop_outer fn a.tmps ps assign body, ?_, fun _ _ => trivial, ?_, fun hd => absurd hd Bool.false_ne_true, ?_⟩
 ·simp only [resolve, hg]
  simp [go_sem]
 ·simp [invoke, go_sem, eg]
 ·refine (h fn _ rfl).mono ?_
  rintro e W ⟨⟨v, rfl⟩, ⟨hl, hq⟩ | ⟨c, hl, hq⟩⟩
  ·exact ⟨none, _, run_endLoop hl (by simp [lrec]), hq⟩
  ·exact ⟨some c, _, run_endLoop hl (by simp), hq⟩

/-- how a round may be left -/
def roundLeft (l : Nat) (r : Loop) (R : Ending → World → Prop) : Exit → Act → World → Prop
 | .normal, _, W => W.heap[l]? = some (.loop { r with state := .busy }) ∧ R (.returned (.bool true)) (W.putObj l (.loop { r with state := .ready, pending := none }))
 | .ret, _, W => W.heap[l]? = some (.loop { r with state := .busy }) ∧ R (.returned (.bool false)) (W.putObj l (.loop { r with state := .done, pending := some .ret }))
 | .exit id, _, W => W.heap[l]? = some (.loop { r with state := .busy }) ∧ R (.returned (.bool false)) (W.putObj l (.loop { r with state := .done, pending := some (.exit id) }))
 | .goto t, _, W => W.heap[l]? = some (.loop { r with state := .busy }) ∧ R (.returned (.bool false)) (W.putObj l (.loop { r with state := .done, pending := some (.goto t) }))
 | .panic _, _, _ => False
 | .outgrown, _, _ => False

/-- a round: yield is called where the loop is ready -/
theorem yield_round {P : Program} {n l : Nat} {W : World} {r : Loop} {args : Array Value} {R : Ending → World → Prop} (h : W.heap[l]? = some (.loop r)) (hr : r.state = .ready) (hs : args.size = r.params.size)
  (hw : r.assign.wpIn (Fence.wide.inRound l) n P (Exit.then (fun a1 W1 => W1.heap[l]? = some (.loop r) ∧ r.body.wpIn (Fence.wide.inRound l) n P (roundLeft l r R) a1 (W1.putObj l (.loop { r with state := .busy }))) (fun _ _ _ => False))
   { tmps := (r.params.zip args).foldl (fun t (p, v) => t.setIfInBounds p v) r.tmps, defers := [] } W) :
  YieldAt Fence.wide n P l args W R := by
 refine ⟨_, _, _, _, run_yield h hs, roundIn_of_wpIn trivial (wpIn_mono hw ?_)⟩
 intro ex a1 W1 hq
 cases ex with
 | normal =>
  obtain ⟨h1, h2⟩ := hq
  refine ⟨_, run_beginRound h1 hr, wpIn_mono h2 ?_⟩
  intro ex a2 W2 hq2
  cases ex with
  | normal => exact ⟨_, _, run_endRound none hq2.1, hq2.2⟩
  | ret => exact ⟨_, _, run_endRound (some .ret) hq2.1, hq2.2⟩
  | exit id => exact ⟨_, _, run_endRound (some (.exit id)) hq2.1, hq2.2⟩
  | goto t => exact ⟨_, _, run_endRound (some (.goto t)) hq2.1, hq2.2⟩
  | panic c => exact hq2.elim
  | outgrown => exact hq2.elim
 | ret => exact hq.elim
 | exit id => exact hq.elim
 | goto t => exact hq.elim
 | panic c => exact hq.elim
 | outgrown => exact hq.elim

theorem round_at {P : Program} {n l D : Nat} {W : World} {fn : FuncId} {tmps : Array Value} {ps : Array Tmp} {assign body : Code} {r : Loop} {args : Array Value} {R : Ending → World → Prop}
  (hr : lrec fn tmps ps assign body D .ready none = r) (h : W.heap[l]? = some (.loop r)) (hs : args.size = ps.size)
  (hw : assign.wpIn (Fence.wide.inRound l) n P (Exit.then (fun a1 W1 => W1.heap[l]? = some (.loop r) ∧ body.wpIn (Fence.wide.inRound l) n P (roundLeft l r R) a1 (W1.putObj l (.loop { r with state := .busy }))) (fun _ _ _ => False))
   { tmps := (ps.zip args).foldl (fun t (p, v) => t.setIfInBounds p v) tmps, defers := [] } W) :
  YieldAt Fence.wide n P l args W R := by
 subst hr
 exact yield_round h rfl hs hw
theorem lrec_again {fn : FuncId} {tmps : Array Value} {ps : Array Tmp} {assign body : Code} {D : Nat} {r : Loop} (hr : lrec fn tmps ps assign body D .ready none = r) : ({ r with state := .ready, pending := none } : Loop) = r := by
 subst hr; rfl
end Go.Proofs.YtgpaajolcpgeaaaGreatDoor

namespace Go.Proofs.YtgpaajolcpgeaaaGreatDoor
open Go.RowKit Go.Shelf
attribute [local go_sem] Oper.semAt_some

/-- a word as it comes: where the limbs of its number lie -/
structure TM where
 d : TD
 ad : Option Addr
 len : Nat
 cap : Nat
 zs : List Int
def tokV (x : TM) : Value := .agg #[.int .i64 x.d.kind, .string x.d.text, .bool false, .slice x.ad x.len x.cap, .int .i64 x.d.at']
def tok0 : Value := .agg #[.int .i64 0, .string ⟨#[]⟩, .bool false, .slice none 0 0, .int .i64 0]
def misV (e p : Int) : Value := .agg #[.int .i64 e, .int .i64 p]
/-- the limbs of a word's number lie in memory that is newer than w0 -/
def Mg (w0 W : World) (x : TM) : Prop := Out w0 W x.ad x.len x.cap x.zs ∧ Canon x.zs ∧ val x.zs = x.d.num
theorem Mg.later {w0 W W' : World} {x : TM} (h : Mg w0 W x) (hb : Below W.heap.size W W') : Mg w0 W' x := ⟨h.1.later hb, h.2⟩

theorem passBlanks_i (s : ByteArray) (a : Nat) (i : Int) (hi : i = (a : Int)) (w : World) (hs : s.size ≤ 1099511627776) (ha : a ≤ s.size) :
  Calls Tryz.prog 108 #[.string s, .int .i64 i] w fun e w' => ∃ k : Nat, BlankEnd s a k ∧ e = .returned (.int .i64 k) ∧ w = w' := by
 subst hi
 exact passBlanks_n s a w hs ha

set_option maxRecDepth 100000 in
set_option maxHeartbeats 1600000 in
theorem scan1_long (s : ByteArray) (B l n : Nat) (w : World) (J Je : World → Prop)
  (hE : ∀ W, J W → YieldAt Fence.wide (n - 1) Tryz.prog l #[tok0, misV 40 0] W fun e W' => (∃ b, e = .returned (.bool b)) ∧ Je W')
  (hB : w.cell? ⟨B, 0, none⟩ = some (.string s)) (hs : 4096 < s.size) (hs' : s.size ≤ 1099511627776) (h0 : J w) :
  CallsIn Fence.wide n Tryz.prog 107 #[.func (.yield l) #[] #[], .pointer (some ⟨B, 0, none⟩)] w fun e W' => (∃ v, e = .returned v) ∧ Je W' := by
 refine callsIn_of_wp Tryz.func107 rfl trivial ?_ rfl
 simp only [Tryz.ntmps107, List.size_toArray, List.length_cons, List.length_nil, Nat.reduceAdd, Nat.reduceSub, Array.replicate_succ, Array.replicate_zero, List.push_toArray, List.append_toArray, List.nil_append, List.cons_append]
 obtain ⟨fn, tmps, assign, body, hy, hR⟩ := hE w h0
 unfold tok0 misV at hy
 gi_wp2
 refine ⟨fun h => absurd h (by decide), hR.mono ?_⟩
 rintro e W' ⟨⟨b, rfl⟩, hJ⟩
 gi_wp2
 refine bodyPost_ret (results_none rfl _ _ _) rfl ?_
 exact ⟨⟨_, rfl⟩, hJ⟩

set_option maxRecDepth 100000 in
set_option maxHeartbeats 3200000 in
theorem scan1_short (s : ByteArray) (B l n : Nat) (w : World) (J Jx : List TM → World → Prop) (Je : List TM → Int → Nat → World → Prop)
  (hJ0 : ∀ xs W, J xs W → W.cell? ⟨B, 0, none⟩ = some (.string s) ∧ Sgn W) (hSt : ∀ xs W W', J xs W → Below W.heap.size W W' → J xs W')
  (hY : ∀ pre x W0 W1, J pre W0 → pre.length < s.size → Below W0.heap.size W0 W1 → Mg W0 W1 x → Pfx s ((pre ++ [x]).map TM.d) → YieldAt Fence.wide (n - 1) Tryz.prog l #[tokV x, misV 0 0] W1 fun e W' =>
   (e = .returned (.bool true) ∧ J (pre ++ [x]) W' ∧ ∀ b, W0.heap.size ≤ b → b < W1.heap.size → W'.heap[b]? = W1.heap[b]?) ∨ (e = .returned (.bool false) ∧ Jx (pre ++ [x]) W'))
  (hE : ∀ pre x p W, J pre W → x ≠ 0 → YieldAt Fence.wide (n - 1) Tryz.prog l #[tok0, misV x (p : Nat)] W fun e W' => (∃ b, e = .returned (.bool b)) ∧ Je pre x p W')
  (hs : s.size ≤ 4096) (h0 : J [] w) :
  CallsIn Fence.wide n Tryz.prog 107 #[.func (.yield l) #[] #[], .pointer (some ⟨B, 0, none⟩)] w fun e W' => (∃ v, e = .returned v) ∧
   ((∃ xs, Lx s 0 (xs.map TM.d) 0 0 ∧ J xs W') ∨ (∃ xs x p, Lx s 0 (xs.map TM.d) x p ∧ Je xs x p W') ∨ (∃ pre, Jx pre W' ∧ Pfx s (pre.map TM.d))) := by
 obtain ⟨hB, hS⟩ := hJ0 _ _ h0
 have hBl := World.block_lt_of_cell? w ⟨B, 0, none⟩ hB
 refine callsIn_of_wp Tryz.func107 rfl trivial ?_ rfl
 simp only [Tryz.ntmps107, List.size_toArray, List.length_cons, List.length_nil, Nat.reduceAdd, Nat.reduceSub, Array.replicate_succ, Array.replicate_zero, List.push_toArray, List.append_toArray, List.nil_append, List.cons_append]
 gi_wp2
 refine ⟨trivial, fun h => absurd h (by decide), (callsIn_wide.2 (passBlanks_n s 0 w (by omega) (by omega))).mono ?_⟩
 rintro e w' ⟨k0, hk0, rfl, rfl⟩
 have hk0l := hk0.2.1
 have H0 : Hid (BlankEnd s k0 k0 ∧ ∀ ts x p, Lx s k0 ts x p → Lx s 0 ((([] : List TM).map TM.d) ++ ts) x p) := ⟨blank_self hk0, fun ts x p h => lx_skip hk0 h⟩
 clear hk0
 gi_wp2
 gi_loopw [3] (fun i wr => ∃ (k : Nat) (pre : List TM), k ≤ s.size ∧ pre.length ≤ k ∧ i = .int .i64 k ∧ Hid (BlankEnd s k k ∧ ∀ ts x p, Lx s k ts x p → Lx s 0 (pre.map TM.d ++ ts) x p) ∧ J pre wr) (fun i _ => s.size - (intOf i).toNat)
 case atStart => exact ⟨k0, [], hk0l, Nat.zero_le _, rfl, H0, h0⟩
 case round =>
  obtain ⟨k, pre, hk, hpl, rfl, HL, hJ⟩ := hrel
  clear hB hS hBl H0 h0
  obtain ⟨hB, hS⟩ := hJ0 _ _ hJ
  have hBl := World.block_lt_of_cell? wr ⟨B, 0, none⟩ hB
  by_cases hkl : k < s.size
  ·gi_wp2
   refine ⟨trivial, fun h => absurd h (by decide), (callsIn_wide.2 (wordAt_any s k wr (by omega) hkl hS)).mono ?_⟩
   rintro e w1 (⟨t, ad, len, cap, zs, rfl, hw, ho, hcn, hv, hll⟩ | ⟨x, rfl, hn, hb⟩)
   ·have hat := hw.1
    have hwl := hw.2.1
    have hpos := wd_size hw hkl
    have hM : Mg wr (w1.alloc (.cells #[.int .i64 t.kind, .string t.text, .bool false, .slice ad len cap, .int .i64 k] 119)) ⟨t, ad, len, cap, zs⟩ := ⟨ho.later (below_alloc _ _), hcn, hv⟩
    have HX : Hid (Pfx s ((pre ++ [(⟨t, ad, len, cap, zs⟩ : TM)]).map TM.d)) := by
     refine ⟨k + t.text.size, hwl, fun ts x p h => ?_⟩
     rw [List.map_append, List.append_assoc]
     exact HL.out.2 _ _ _ (.word HL.out.1 hkl hw h)
    obtain ⟨fn, tmps, assign, body, hy, hR⟩ := hY pre ⟨t, ad, len, cap, zs⟩ wr _ hJ (by omega) (below_alloc' ho.1 _) hM HX.out
    unfold tokV misV at hy
    dsimp only at hy
    rw [hat] at hy
    gi_wp2
    refine ⟨fun h => absurd h (by decide), hR.mono ?_⟩
    rintro e W3 (⟨rfl, hJ3, hk3⟩ | ⟨rfl, hJx3⟩)
    ·have y : TB W3 w1.heap.size (.int .i64 t.kind) (.string t.text) (.bool false) (.slice ad len cap) (.int .i64 k) := (hk3 w1.heap.size ho.1.size (by simp)).trans (tb_new w1 _ _ _ _ _)
     have y1 := y.c1
     obtain ⟨hB3, -⟩ := hJ0 _ _ hJ3
     clear hR hy hM
     gi_wp2
     refine ⟨trivial, fun h => absurd h (by decide), (callsIn_wide.2 (passBlanks_i s (k + t.text.size) _ (by omega) W3 (by omega) hwl)).mono ?_⟩
     rintro e w' ⟨k2, hk2, rfl, rfl⟩
     have HL2 : Hid (BlankEnd s k2 k2 ∧ ∀ ts x p, Lx s k2 ts x p → Lx s 0 ((pre ++ [(⟨t, ad, len, cap, zs⟩ : TM)]).map TM.d ++ ts) x p) := by
      refine ⟨blank_self hk2, fun ts x p h => ?_⟩
      rw [List.map_append, List.append_assoc]
      exact HL.out.2 _ _ _ (.word HL.out.1 hkl hw (lx_skip hk2 h))
     have hk2l := hk2.2.1
     have hk2a := hk2.1
     gi_wp2
     exact ⟨⟨k2, _, hk2l, by rw [List.length_append]; simp; omega, rfl, HL2, hJ3⟩, by simp [intOf]; omega⟩
    ·clear hR hy hM
     gi_wp2
     refine bodyPost_ret (results_none rfl _ _ _) rfl ?_
     exact ⟨⟨_, rfl⟩, .inr (.inr ⟨_, hJx3, HX.out⟩)⟩
   ·have hx := nw_ne hn
    have hxb : (x == 0) = false := by rw [beq_eq_false_iff_ne]; omega
    have hJ1 : J pre (w1.alloc (.cells #[.int .i64 0, .string ⟨#[]⟩, .bool false, .slice none 0 0, .int .i64 0] 119)) := hSt _ _ _ hJ (below_alloc' hb _)
    obtain ⟨fn, tmps, assign, body, hy, hR⟩ := hE pre x k _ hJ1 (by omega)
    unfold tok0 misV at hy
    gi_wp2
    refine ⟨fun h => absurd h (by decide), hR.mono ?_⟩
    rintro e W3 ⟨⟨b, rfl⟩, hJe⟩
    have HX : Hid (Lx s 0 (pre.map TM.d) x k) := by
     have := HL.out.2 [] x k (.bad HL.out.1 hkl hn)
     rw [List.append_nil] at this
     exact this
    clear hR hy
    gi_wp2
    refine bodyPost_ret (results_none rfl _ _ _) rfl ?_
    exact ⟨⟨_, rfl⟩, .inr (.inl ⟨_, _, _, HX.out, hJe⟩)⟩
  ·obtain rfl : k = s.size := by omega
   have HX : Hid (Lx s 0 (pre.map TM.d) 0 0) := by
    have := HL.out.2 [] 0 0 (.done HL.out.1)
    rw [List.append_nil] at this
    exact this
   gi_wp2
   go_end0
   exact ⟨⟨_, rfl⟩, .inl ⟨pre, HX.out, hJ⟩⟩
end Go.Proofs.YtgpaajolcpgeaaaGreatDoor
