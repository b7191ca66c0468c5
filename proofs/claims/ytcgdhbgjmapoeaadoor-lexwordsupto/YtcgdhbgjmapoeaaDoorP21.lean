/-
 Several texts in one: XV, XV2, XV3, XY, XW.
-/
import Derived.Test.YtcgdhbgjmapoeaaDoorP10
import Derived.Test.YtcgdhbgjmapoeaaDoorP20
import Derived.Test.YtcgdhbgjmapoeaaDoorP08
namespace Go.Proofs.YtcgdhbgjmapoeaaDoor
open Go.RowKit Go.Shelf
attribute [local go_sem] Oper.semAt_some

theorem calls_some {P : Program} {f : FuncId} {args : Array Value} {w : World} {R : Ending → World → Prop} (h : Calls P f args w R) : ∃ e w', R e w' := by
 obtain ⟨e, w', _, hr, _⟩ := h []
 exact ⟨e, w', hr⟩

theorem lx_total {s : ByteArray} {w : World} (hS : Sgn w) (hs : s.size ≤ 1099511627776) : ∀ m a, s.size - a ≤ m → a ≤ s.size → ∃ ts x p, Lx s a ts x p := by
 intro m
 induction m with
 | zero =>
  intro a hm ha
  obtain rfl : a = s.size := by omega
  exact ⟨[], 0, 0, .done ⟨Nat.le_refl _, Nat.le_refl _, fun j h1 h2 => absurd h2 (by omega), fun h => absurd h (by omega)⟩⟩
 | succ m ih =>
  intro a hm ha
  obtain ⟨k, hk⟩ : ∃ k, BlankEnd s a k := by
   obtain ⟨e, w', k, hk, _⟩ := calls_some (passBlanks_n s a w hs ha)
   exact ⟨k, hk⟩
  by_cases hks : k < s.size
  ·obtain ⟨e, w', h⟩ := calls_some (wordAt_any s k w hs hks hS)
   rcases h with ⟨t, ad, len, cap, zs, _, hw, _⟩ | ⟨x, _, hn, _⟩
   ·have hp := wd_size hw hks
    obtain ⟨ts, x, p, h⟩ := ih (k + t.text.size) (by have := hk.1; omega) hw.2.1
    exact ⟨_, _, _, .word hk hks hw h⟩
   ·exact ⟨_, _, _, .bad hk hks hn⟩
  ·obtain rfl : k = s.size := by have := hk.2.1; omega
   exact ⟨_, _, _, .done hk⟩

theorem pfx_of {s : ByteArray} {w : World} {D ds : List TD} {x : Int} {p : Nat} (hS : Sgn w) (h4 : s.size ≤ 4096) (hD : Lxs s D x p) (h : Pfx s ds) : ∃ ts, D = ds ++ ts := by
 obtain ⟨a, ha, h⟩ := h
 obtain ⟨ts, x', p', hx⟩ := lx_total hS (by omega) (s.size - a) a (Nat.le_refl _) ha
 unfold Lxs at hD
 rw [if_neg (by omega)] at hD
 exact ⟨ts, (lx_unique hD (h ts x' p' hx)).1⟩

/-- the way in, within a round of another loop -/
theorem range_enter_in {P : Program} {n : Nat} {g : Operand} {ps : Array Tmp} {assign body : Code} {Q : Exit → Act → World → Prop} {a : Act} {w : World} {gf : Nat} {lb : Array Value} {l0 : Nat} {r0 : Loop} (hl0 : w.heap[l0]? = some (.loop r0))
  (hg : a.eval g = .func (.func gf) #[] lb) (eg : ∀ args w, (callFunc gf args).run P w = .ok (.enter gf args) w)
  (h : ∀ fn r, lrec fn a.tmps ps assign body r0.defers .ready none = r → CallsIn Fence.wide (n - 1) P gf (#[.func (.yield w.heap.size) #[] #[]] ++ lb) (w.alloc (.loop r)) fun e W =>
   (∃ v, e = .returned v) ∧ W.heap[w.heap.size]? = some (.loop r) ∧ Q .normal a (W.putObj w.heap.size (.loop { r with state := .exhausted }))) :
  (Code.rangeFunc g ps assign body).wpIn (Fence.wide.inRound l0) n P Q a w := by
 refine wpIn_rangeFunc fun fn _ => ?_
 let W1 := w.alloc (.loop (lrec fn a.tmps ps assign body r0.defers .ready none))
 refine ⟨w.heap.size, [], W1, { target := .fn (.func gf) lb, args := #[.func (.yield w.heap.size) #[] #[]] }, W1, gf, #[.func (.yield w.heap.size) #[] #[]] ++ lb, W1,
  run_enterLoop_inner hl0 fn a.tmps ps assign body, ?_, fun _ _ => trivial, ?_, fun hd => absurd hd Bool.false_ne_true, ?_⟩
 ·simp only [resolve, hg]
  simp [go_sem]
 ·simp [invoke, go_sem, eg]
 ·refine CallsIn.inRound l0 ((h fn _ rfl).mono ?_)
  rintro e W ⟨⟨v, rfl⟩, hl, hq⟩
  exact ⟨none, _, run_endLoop hl (by simp [lrec]), hq⟩

theorem flat_take (xs : List TM) (n : Nat) : (xs.flatMap V5).take (n * 5) = (xs.take n).flatMap V5 := by
 induction xs generalizing n with
 | nil => simp
 | cons x xs ih =>
  cases n with
  | zero => simp
  | succ n =>
   have e : (V5 x).length = 5 := rfl
   rw [List.flatMap_cons, List.take_succ_cons, List.flatMap_cons, List.take_append, e, show (n + 1) * 5 - 5 = n * 5 by omega, List.take_of_length_le (by rw [e]; omega), ih]
/-- the first words of a list -/
theorem own_take {W : World} {base : Nat} {e : TypeId} {v : Value} {xs : List TM} (h : W.ownsRow base e 5 v xs.length (xs.flatMap V5)) {n : Nat} (hn : n < xs.length) :
  ∃ g cap, v = .slice (some ⟨g, 0, none⟩) xs.length cap ∧ n ≤ cap ∧ xs.length ≤ cap ∧ cap ≤ 9223372036854775807 ∧ W.ownsRow base e 5 (.slice (some ⟨g, 0, none⟩) n cap) (xs.take n).length ((xs.take n).flatMap V5) := by
 have hl : (xs.take n).length = n := by rw [List.length_take]; omega
 obtain ⟨h1, ⟨_, h2⟩ | ⟨g, cap, cur, rfl, hb, hg, hle, hm, hsz, ht⟩⟩ := h
 ·omega
 ·refine ⟨g, cap, rfl, by omega, hle, by unfold maxLen at hm; omega, ?_⟩
  rw [hl]
  refine ⟨?_, .inr ⟨g, cap, cur, rfl, hb, hg, by omega, hm, hsz, ?_⟩⟩
  ·rw [← flat_take, List.length_take, h1]; omega
  ·rw [← flat_take, ← ht, List.take_take, Nat.min_eq_left (by omega)]

set_option maxRecDepth 100000 in
set_option maxHeartbeats 6400000 in
theorem over_zero (s : ByteArray) (w : World) :
  Calls Tryd.prog 16 #[.string s, .int .i64 0] w fun e w' => e = .returned (.slice none 0 0) ∧ Below w.heap.size w w' := by
 refine (callsIn_wide (n := 5)).1 ?_
 refine callsIn_of_wp_marks Tryd.func16 rfl trivial ?_ rfl
 simp only [Tryd.ntmps16, List.size_toArray, List.length_cons, List.length_nil, Nat.reduceAdd, Nat.reduceSub, Array.replicate_succ, Array.replicate_zero, List.push_toArray, List.append_toArray, List.nil_append, List.cons_append]
 gi_wp2
 exact ⟨_, results_tmp rfl _ _ _, rfl, below_alloc' (below_alloc _ _) _⟩
theorem fn_eql_nil (vs : Array Value) (w : World) : Sem.run Tryd.prog (binOp BinOp.eql 36 (.func (.func 24) #[] vs) .nilFunc) w = .ok (.bool false) w := by kernel_rfl
end Go.Proofs.YtcgdhbgjmapoeaaDoor

namespace Go.Proofs.YtcgdhbgjmapoeaaDoor
open Go.RowKit Go.Shelf

theorem lx_len2 {s : ByteArray} {a : Nat} {ts : List TD} {x : Int} {p : Nat} (h : Lx s a ts x p) : ts.length + a ≤ s.size := by
 induction ts generalizing a with
 | nil =>
  rcases h.nil with ⟨h, _, _⟩ | ⟨k, h, hk, _, _⟩
  ·have := h.1; simp; omega
  ·have := h.1; simp; omega
 | cons t ts ih =>
  obtain ⟨k, h, hk, hw, hr⟩ := h.cons
  replace ih := ih hr
  have := h.1
  have := wd_size hw hk
  rw [List.length_cons]
  omega
theorem lxs_len2 {s : ByteArray} {ts : List TD} {x : Int} {p : Nat} (h : Lxs s ts x p) : ts.length ≤ s.size := by
 unfold Lxs at h
 split at h
 ·rw [h.1]; simp
 ·have := lx_len2 h; omega
theorem over_all {s : ByteArray} {w : World} {D : List TD} {x : Int} {p : Nat} (hs : s.size ≤ 1099511627776) (hS : Sgn w) (hD : Lxs s D x p) :
  Calls Tryd.prog 16 #[.string s, .int .i64 (-1)] w fun e w' => ∃ (xs : List TM) (va : Option Addr) (vn vc : Nat), e = .returned (.slice va vn vc) ∧ w'.ownsRow w.heap.size 44 5 (.slice va vn vc) xs.length (xs.flatMap V5) ∧ (∀ x ∈ xs, Mg w w' x) ∧ Below w.heap.size w w' ∧ xs.map TM.d = D := by
 refine (over_any s (-1) w hs (by decide) (by decide) (by decide) hS).mono ?_
 rintro e w' ⟨xs, v, rfl, hrow, hmg, hb, ⟨_, x', p', hx⟩ | ⟨hl, _⟩⟩
 ·obtain ⟨va, vc, rfl⟩ := own_slice2 hrow
  exact ⟨xs, _, _, _, rfl, hrow, hmg, hb, (lxs_unique hx hD).1⟩
 ·omega
theorem over_take {s : ByteArray} {w : World} {D : List TD} {p n : Nat} {e0 : Int} (hs : s.size ≤ 1099511627776) (hn : n ≤ 1099511627776) (hS : Sgn w) (hD : Lxs s D e0 p) :
  Calls Tryd.prog 16 #[.string s, .int .i64 n] w fun e w' => ∃ (xs : List TM) (va : Option Addr) (vn vc : Nat), e = .returned (.slice va vn vc) ∧ w'.ownsRow w.heap.size 44 5 (.slice va vn vc) xs.length (xs.flatMap V5) ∧ (∀ x ∈ xs, Mg w w' x) ∧ Below w.heap.size w w' ∧ xs.map TM.d = D.take n := by
 by_cases h0 : n = 0
 ·subst h0
  refine (over_zero s w).mono ?_
  rintro e w' ⟨rfl, hb⟩
  exact ⟨[], _, _, _, rfl, World.ownsRow_nil _ _ _ _, fun x hx => (by cases hx), hb, by simp⟩
 ·refine (over_any s n w hs (by omega) (by omega) (by omega) hS).mono ?_
  rintro e w' ⟨xs, v, rfl, hrow, hmg, hb, ⟨hne, x', p', hx⟩ | ⟨hl, h4, hpx⟩⟩
  ·obtain ⟨va, vc, rfl⟩ := own_slice2 hrow
   refine ⟨xs, _, _, _, rfl, hrow, hmg, hb, ?_⟩
   have e := (lxs_unique hx hD).1
   have hl : D.length ≤ n := by
    rw [← e, List.length_map]
    rcases Nat.lt_or_ge n xs.length with h | h
    ·exact absurd rfl (hne n (by omega))
    ·exact h
   rw [e, List.take_of_length_le hl]
  ·obtain ⟨va, vc, rfl⟩ := own_slice2 hrow
   refine ⟨xs, _, _, _, rfl, hrow, hmg, hb, ?_⟩
   obtain ⟨ts, rfl⟩ := pfx_of hS h4 hD hpx
   have hl' : (xs.map TM.d).length = n := by rw [List.length_map]; omega
   rw [List.take_append_of_le_length (by omega), ← hl', List.take_length]
end Go.Proofs.YtcgdhbgjmapoeaaDoor

namespace Go.Proofs.YtcgdhbgjmapoeaaDoor
open Go.RowKit Go.Shelf
attribute [local go_sem] Oper.semAt_some

def isRegion10 : Code → Bool
 | .region m _ _ => m == 10
 | _ => false
def region10Of : Code → Option Code
 | .rangeFunc _ _ _ b => region10Of b
 | .seq a b => match region10Of a with
  | some c => some c
  | none => region10Of b
 | .cond _ a b => match region10Of a with
  | some c => some c
  | none => region10Of b
 | .block _ c => region10Of c
 | .scope c => region10Of c
 | .loop c => region10Of c
 | c => if isRegion10 c then some c else none
def lwReg10At (f : Func) : Code := (f.body.bind region10Of).getD .skip
/-- the way through the region from where some operations are done -/
def regAny10 (F : Fence) (n : Nat) (P : Program) (c : Code) (Q : Exit → Act → World → Prop) (fuel : Nat) (listed : Array Bool) (a : Act) (w : World) : Prop :=
 match c with
 | .region _ ops _ => wpAnyIn F n P .any ops Q fuel listed a w
 | _ => False
def upTo10 (n m : Nat) : Array Bool := (List.replicate n true ++ List.replicate m false).toArray
theorem anyIn_listed10 {F : Fence} {n : Nat} {P : Program} {md : Region.Mode} {ops : Array Oper} {Q : Exit → Act → World → Prop} {fuel : Nat} {l l' : Array Bool} {a : Act} {w : World} (h : l = l') (k : wpAnyIn F n P md ops Q fuel l' a w) : wpAnyIn F n P md ops Q fuel l a w := h ▸ k

set_option maxRecDepth 100000 in
set_option maxHeartbeats 6400000 in
theorem lw_reg10b {s : ByteArray} {b5 bz n fl fc p : Nat} {fa : Option Addr} {zs ys : List TM} {x0 : Int} {Wc Wd : World} {u1 u2 u3 u4 u6 u9 u10 u11 u12 u13 u14 u15 u16 u17 u18 u19 u20 u21 u22 u23 u24 u25 u26 u27 u28 u29 u30 u31 u32 u33 u34 u35 u36 u37 u38 u39 u40 u41 u42 u43 u44 u45 u46 u48 u49 u50 u51 u52 u53 u54 u55 u56 u57 u58 u59 u60 u61 u62 u63 u64 u65 u66 u67 u68 u69 u70 u71 u72 u73 u74 u75 u76 u77 u78 u79 u80 u81 u82 u83 u84 u85 u86 u87 u88 u89 u90 u91 u92 u93 u94 u95 u96 : Value}
  (hs : s.size ≤ 1048576) (hn : n ≤ 1099511627776) (hS : Sgn Wc) (hD : Lxs s (zs.map TM.d) x0 p)
  (frow : Wc.ownsRow bz 46 5 (.slice fa fl fc) ys.length (ys.flatMap V5)) (fm : ∀ x ∈ ys, ∃ w0, Mg w0 Wc x) (hyd : Hid (ys.map TM.d = (zs.map TM.d).take n)) (hyl : ys.length ≤ s.size) (kd : Below Wc.heap.size Wc Wd) :
  regAny10 Fence.wide 5 Tryd.prog (lwReg10At Tryd.f4) (fun e a' W' => e = .normal ∧ (∃ v42 v43 v44 v45 v46 v47 v48 v49 v50 v51 v52 v53 : Value, a' = ⟨#[.string s, u1, u2, u3, u4, .pointer (some ⟨b5, 0, none⟩), u6, .int .i64 n, .slice fa fl fc, u9, u10, u11, u12, u13, u14, u15, u16, u17, u18, u19, u20, u21, u22, u23, u24, u25, u26, u27, u28, u29, u30, u31, u32, u33, u34, u35, u36, u37, u38, u39, u40, u41, v42, v43, v44, v45, v46, v47, v48, v49, v50, v51, v52, v53, .bool false, u55, u56, u57, u58, u59, u60, u61, u62, u63, u64, u65, u66, u67, u68, u69, u70, u71, u72, u73, u74, u75, u76, u77, u78, u79, u80, u81, u82, u83, u84, u85, u86, u87, u88, u89, u90, u91, u92, u93, u94, u95, u96], []⟩) ∧ Below Wc.heap.size Wc W') 7 (upTo10 6 7) ⟨#[.string s, u1, u2, u3, u4, .pointer (some ⟨b5, 0, none⟩), u6, .int .i64 n, .slice fa fl fc, u9, u10, u11, u12, u13, u14, u15, u16, u17, u18, u19, u20, u21, u22, u23, u24, u25, u26, u27, u28, u29, u30, u31, u32, u33, u34, u35, u36, u37, u38, u39, u40, u41, u42, u43, u44, u45, u46, .bool false, u48, u49, u50, u51, u52, u53, u54, u55, u56, u57, u58, u59, u60, u61, u62, u63, u64, u65, u66, u67, u68, u69, u70, u71, u72, u73, u74, u75, u76, u77, u78, u79, u80, u81, u82, u83, u84, u85, u86, u87, u88, u89, u90, u91, u92, u93, u94, u95, u96], []⟩ Wd := by
 conv in lwReg10At _ => whnf
 dsimp only [regAny10]
 have hsz : s.size ≤ 1099511627776 := by omega
 refine wpAnyIn_ready (rs := [6, 7, 9]) (by kernel_rfl) (by simp) ?_
 refine AllReadyIn.cons (o := ⟨some 48, _, _, _, _, _⟩) rfl (fun K hK => ?_) ?_
 ·go_simp
  refine hK _ _ ?_
  clear hK K
  refine wpAnyIn_ready (rs := [7, 9]) (by kernel_rfl) (by simp) ?_
  refine AllReadyIn.cons (o := ⟨some 49, _, _, _, _, _⟩) rfl (fun K hK => ?_) ?_
  ·go_simp
   refine hK _ _ ?_
   clear hK K
   refine wpAnyIn_ready (rs := [8, 9]) (by kernel_rfl) (by simp) ?_
   refine AllReadyIn.cons (o := ⟨some 50, _, _, _, _, _⟩) rfl (fun K hK => ?_) ?_
   ·go_simp
    refine ⟨trivial, ?_⟩; gi_at_call 16; refine (callsIn_wide.2 (over_take hsz hn (hS.below kd) hD)).mono ?_; rintro e w3 ⟨os, oa, on', oc, rfl, orow, omg, ob, od⟩; have k3 := grow_step ob kd; have OD := hide (od.trans hyd.out.symm); clear od
    (try dsimp only)
    refine hK _ _ ?_
    clear hK K
    refine wpAnyIn_ready (rs := [9]) (by kernel_rfl) (by simp) ?_
    refine AllReadyIn.cons (o := ⟨some 51, _, _, _, _, _⟩) rfl (fun K hK => ?_) ?_
    ·go_simp
     refine hK _ _ ?_
     clear hK K
     refine wpAnyIn_ready (rs := [10]) (by kernel_rfl) (by simp) ?_
     refine AllReadyIn.cons (o := ⟨some 52, _, _, _, _, _⟩) rfl (fun K hK => ?_) ?_
     ·go_simp
      refine ⟨trivial, ?_⟩; gi_at_call 10; refine (callsIn_wide.2 (are_t orow (owns_later frow k3) (fun x hx => ⟨_, omg x hx⟩) (fun x hx => (fm x hx).imp fun _ k => k.later k3) OD.out (by have := congrArg List.length OD.out; simp at this; omega))).mono ?_; rintro e w4 ⟨rfl, ab⟩
      (try dsimp only)
      refine hK _ _ ?_
      clear hK K
      refine wpAnyIn_ready (rs := [11]) (by kernel_rfl) (by simp) ?_
      refine AllReadyIn.cons (o := ⟨some 53, _, _, _, _, _⟩) rfl (fun K hK => ?_) ?_
      ·go_simp
       refine hK _ _ ?_
       clear hK K
       refine wpAnyIn_ready (rs := [12]) (by kernel_rfl) (by simp) ?_
       refine AllReadyIn.cons (o := ⟨some 54, _, _, _, _, _⟩) rfl (fun K hK => ?_) ?_
       ·go_simp
        refine hK _ _ ?_
        clear hK K
        refine wpAnyIn_done (by kernel_rfl) ?_ _
        exact ⟨rfl, ⟨_, _, _, _, _, _, _, _, _, _, _, _, rfl⟩, grow_step ab k3⟩
       exact AllReadyIn.nil
      exact AllReadyIn.nil
     exact AllReadyIn.nil
    exact AllReadyIn.nil
   refine AllReadyIn.cons (o := ⟨some 51, _, _, _, _, _⟩) rfl (fun K hK => ?_) ?_
   ·go_simp
    refine hK _ _ ?_
    clear hK K
    refine wpAnyIn_ready (rs := [8]) (by kernel_rfl) (by simp) ?_
    refine AllReadyIn.cons (o := ⟨some 50, _, _, _, _, _⟩) rfl (fun K hK => ?_) ?_
    ·go_simp
     refine ⟨trivial, ?_⟩; gi_at_call 16; refine (callsIn_wide.2 (over_take hsz hn (hS.below kd) hD)).mono ?_; rintro e w3 ⟨os, oa, on', oc, rfl, orow, omg, ob, od⟩; have k3 := grow_step ob kd; have OD := hide (od.trans hyd.out.symm); clear od
     (try dsimp only)
     refine hK _ _ ?_
     clear hK K
     refine wpAnyIn_ready (rs := [10]) (by kernel_rfl) (by simp) ?_
     refine AllReadyIn.cons (o := ⟨some 52, _, _, _, _, _⟩) rfl (fun K hK => ?_) ?_
     ·go_simp
      refine ⟨trivial, ?_⟩; gi_at_call 10; refine (callsIn_wide.2 (are_t orow (owns_later frow k3) (fun x hx => ⟨_, omg x hx⟩) (fun x hx => (fm x hx).imp fun _ k => k.later k3) OD.out (by have := congrArg List.length OD.out; simp at this; omega))).mono ?_; rintro e w4 ⟨rfl, ab⟩
      (try dsimp only)
      refine hK _ _ ?_
      clear hK K
      refine wpAnyIn_ready (rs := [11]) (by kernel_rfl) (by simp) ?_
      refine AllReadyIn.cons (o := ⟨some 53, _, _, _, _, _⟩) rfl (fun K hK => ?_) ?_
      ·go_simp
       refine hK _ _ ?_
       clear hK K
       refine wpAnyIn_ready (rs := [12]) (by kernel_rfl) (by simp) ?_
       refine AllReadyIn.cons (o := ⟨some 54, _, _, _, _, _⟩) rfl (fun K hK => ?_) ?_
       ·go_simp
        refine hK _ _ ?_
        clear hK K
        refine wpAnyIn_done (by kernel_rfl) ?_ _
        exact ⟨rfl, ⟨_, _, _, _, _, _, _, _, _, _, _, _, rfl⟩, grow_step ab k3⟩
       exact AllReadyIn.nil
      exact AllReadyIn.nil
     exact AllReadyIn.nil
    exact AllReadyIn.nil
   exact AllReadyIn.nil
  refine AllReadyIn.cons (o := ⟨some 51, _, _, _, _, _⟩) rfl (fun K hK => ?_) ?_
  ·go_simp
   refine hK _ _ ?_
   clear hK K
   refine wpAnyIn_ready (rs := [7]) (by kernel_rfl) (by simp) ?_
   refine AllReadyIn.cons (o := ⟨some 49, _, _, _, _, _⟩) rfl (fun K hK => ?_) ?_
   ·go_simp
    refine hK _ _ ?_
    clear hK K
    refine wpAnyIn_ready (rs := [8]) (by kernel_rfl) (by simp) ?_
    refine AllReadyIn.cons (o := ⟨some 50, _, _, _, _, _⟩) rfl (fun K hK => ?_) ?_
    ·go_simp
     refine ⟨trivial, ?_⟩; gi_at_call 16; refine (callsIn_wide.2 (over_take hsz hn (hS.below kd) hD)).mono ?_; rintro e w3 ⟨os, oa, on', oc, rfl, orow, omg, ob, od⟩; have k3 := grow_step ob kd; have OD := hide (od.trans hyd.out.symm); clear od
     (try dsimp only)
     refine hK _ _ ?_
     clear hK K
     refine wpAnyIn_ready (rs := [10]) (by kernel_rfl) (by simp) ?_
     refine AllReadyIn.cons (o := ⟨some 52, _, _, _, _, _⟩) rfl (fun K hK => ?_) ?_
     ·go_simp
      refine ⟨trivial, ?_⟩; gi_at_call 10; refine (callsIn_wide.2 (are_t orow (owns_later frow k3) (fun x hx => ⟨_, omg x hx⟩) (fun x hx => (fm x hx).imp fun _ k => k.later k3) OD.out (by have := congrArg List.length OD.out; simp at this; omega))).mono ?_; rintro e w4 ⟨rfl, ab⟩
      (try dsimp only)
      refine hK _ _ ?_
      clear hK K
      refine wpAnyIn_ready (rs := [11]) (by kernel_rfl) (by simp) ?_
      refine AllReadyIn.cons (o := ⟨some 53, _, _, _, _, _⟩) rfl (fun K hK => ?_) ?_
      ·go_simp
       refine hK _ _ ?_
       clear hK K
       refine wpAnyIn_ready (rs := [12]) (by kernel_rfl) (by simp) ?_
       refine AllReadyIn.cons (o := ⟨some 54, _, _, _, _, _⟩) rfl (fun K hK => ?_) ?_
       ·go_simp
        refine hK _ _ ?_
        clear hK K
        refine wpAnyIn_done (by kernel_rfl) ?_ _
        exact ⟨rfl, ⟨_, _, _, _, _, _, _, _, _, _, _, _, rfl⟩, grow_step ab k3⟩
       exact AllReadyIn.nil
      exact AllReadyIn.nil
     exact AllReadyIn.nil
    exact AllReadyIn.nil
   exact AllReadyIn.nil
  exact AllReadyIn.nil
 refine AllReadyIn.cons (o := ⟨some 49, _, _, _, _, _⟩) rfl (fun K hK => ?_) ?_
 ·go_simp
  refine hK _ _ ?_
  clear hK K
  refine wpAnyIn_ready (rs := [6, 9]) (by kernel_rfl) (by simp) ?_
  refine AllReadyIn.cons (o := ⟨some 48, _, _, _, _, _⟩) rfl (fun K hK => ?_) ?_
  ·go_simp
   refine hK _ _ ?_
   clear hK K
   refine wpAnyIn_ready (rs := [8, 9]) (by kernel_rfl) (by simp) ?_
   refine AllReadyIn.cons (o := ⟨some 50, _, _, _, _, _⟩) rfl (fun K hK => ?_) ?_
   ·go_simp
    refine ⟨trivial, ?_⟩; gi_at_call 16; refine (callsIn_wide.2 (over_take hsz hn (hS.below kd) hD)).mono ?_; rintro e w3 ⟨os, oa, on', oc, rfl, orow, omg, ob, od⟩; have k3 := grow_step ob kd; have OD := hide (od.trans hyd.out.symm); clear od
    (try dsimp only)
    refine hK _ _ ?_
    clear hK K
    refine wpAnyIn_ready (rs := [9]) (by kernel_rfl) (by simp) ?_
    refine AllReadyIn.cons (o := ⟨some 51, _, _, _, _, _⟩) rfl (fun K hK => ?_) ?_
    ·go_simp
     refine hK _ _ ?_
     clear hK K
     refine wpAnyIn_ready (rs := [10]) (by kernel_rfl) (by simp) ?_
     refine AllReadyIn.cons (o := ⟨some 52, _, _, _, _, _⟩) rfl (fun K hK => ?_) ?_
     ·go_simp
      refine ⟨trivial, ?_⟩; gi_at_call 10; refine (callsIn_wide.2 (are_t orow (owns_later frow k3) (fun x hx => ⟨_, omg x hx⟩) (fun x hx => (fm x hx).imp fun _ k => k.later k3) OD.out (by have := congrArg List.length OD.out; simp at this; omega))).mono ?_; rintro e w4 ⟨rfl, ab⟩
      (try dsimp only)
      refine hK _ _ ?_
      clear hK K
      refine wpAnyIn_ready (rs := [11]) (by kernel_rfl) (by simp) ?_
      refine AllReadyIn.cons (o := ⟨some 53, _, _, _, _, _⟩) rfl (fun K hK => ?_) ?_
      ·go_simp
       refine hK _ _ ?_
       clear hK K
       refine wpAnyIn_ready (rs := [12]) (by kernel_rfl) (by simp) ?_
       refine AllReadyIn.cons (o := ⟨some 54, _, _, _, _, _⟩) rfl (fun K hK => ?_) ?_
       ·go_simp
        refine hK _ _ ?_
        clear hK K
        refine wpAnyIn_done (by kernel_rfl) ?_ _
        exact ⟨rfl, ⟨_, _, _, _, _, _, _, _, _, _, _, _, rfl⟩, grow_step ab k3⟩
       exact AllReadyIn.nil
      exact AllReadyIn.nil
     exact AllReadyIn.nil
    exact AllReadyIn.nil
   refine AllReadyIn.cons (o := ⟨some 51, _, _, _, _, _⟩) rfl (fun K hK => ?_) ?_
   ·go_simp
    refine hK _ _ ?_
    clear hK K
    refine wpAnyIn_ready (rs := [8]) (by kernel_rfl) (by simp) ?_
    refine AllReadyIn.cons (o := ⟨some 50, _, _, _, _, _⟩) rfl (fun K hK => ?_) ?_
    ·go_simp
     refine ⟨trivial, ?_⟩; gi_at_call 16; refine (callsIn_wide.2 (over_take hsz hn (hS.below kd) hD)).mono ?_; rintro e w3 ⟨os, oa, on', oc, rfl, orow, omg, ob, od⟩; have k3 := grow_step ob kd; have OD := hide (od.trans hyd.out.symm); clear od
     (try dsimp only)
     refine hK _ _ ?_
     clear hK K
     refine wpAnyIn_ready (rs := [10]) (by kernel_rfl) (by simp) ?_
     refine AllReadyIn.cons (o := ⟨some 52, _, _, _, _, _⟩) rfl (fun K hK => ?_) ?_
     ·go_simp
      refine ⟨trivial, ?_⟩; gi_at_call 10; refine (callsIn_wide.2 (are_t orow (owns_later frow k3) (fun x hx => ⟨_, omg x hx⟩) (fun x hx => (fm x hx).imp fun _ k => k.later k3) OD.out (by have := congrArg List.length OD.out; simp at this; omega))).mono ?_; rintro e w4 ⟨rfl, ab⟩
      (try dsimp only)
      refine hK _ _ ?_
      clear hK K
      refine wpAnyIn_ready (rs := [11]) (by kernel_rfl) (by simp) ?_
      refine AllReadyIn.cons (o := ⟨some 53, _, _, _, _, _⟩) rfl (fun K hK => ?_) ?_
      ·go_simp
       refine hK _ _ ?_
       clear hK K
       refine wpAnyIn_ready (rs := [12]) (by kernel_rfl) (by simp) ?_
       refine AllReadyIn.cons (o := ⟨some 54, _, _, _, _, _⟩) rfl (fun K hK => ?_) ?_
       ·go_simp
        refine hK _ _ ?_
        clear hK K
        refine wpAnyIn_done (by kernel_rfl) ?_ _
        exact ⟨rfl, ⟨_, _, _, _, _, _, _, _, _, _, _, _, rfl⟩, grow_step ab k3⟩
       exact AllReadyIn.nil
      exact AllReadyIn.nil
     exact AllReadyIn.nil
    exact AllReadyIn.nil
   exact AllReadyIn.nil
  refine AllReadyIn.cons (o := ⟨some 51, _, _, _, _, _⟩) rfl (fun K hK => ?_) ?_
  ·go_simp
   refine hK _ _ ?_
   clear hK K
   refine wpAnyIn_ready (rs := [6]) (by kernel_rfl) (by simp) ?_
   refine AllReadyIn.cons (o := ⟨some 48, _, _, _, _, _⟩) rfl (fun K hK => ?_) ?_
   ·go_simp
    refine hK _ _ ?_
    clear hK K
    refine wpAnyIn_ready (rs := [8]) (by kernel_rfl) (by simp) ?_
    refine AllReadyIn.cons (o := ⟨some 50, _, _, _, _, _⟩) rfl (fun K hK => ?_) ?_
    ·go_simp
     refine ⟨trivial, ?_⟩; gi_at_call 16; refine (callsIn_wide.2 (over_take hsz hn (hS.below kd) hD)).mono ?_; rintro e w3 ⟨os, oa, on', oc, rfl, orow, omg, ob, od⟩; have k3 := grow_step ob kd; have OD := hide (od.trans hyd.out.symm); clear od
     (try dsimp only)
     refine hK _ _ ?_
     clear hK K
     refine wpAnyIn_ready (rs := [10]) (by kernel_rfl) (by simp) ?_
     refine AllReadyIn.cons (o := ⟨some 52, _, _, _, _, _⟩) rfl (fun K hK => ?_) ?_
     ·go_simp
      refine ⟨trivial, ?_⟩; gi_at_call 10; refine (callsIn_wide.2 (are_t orow (owns_later frow k3) (fun x hx => ⟨_, omg x hx⟩) (fun x hx => (fm x hx).imp fun _ k => k.later k3) OD.out (by have := congrArg List.length OD.out; simp at this; omega))).mono ?_; rintro e w4 ⟨rfl, ab⟩
      (try dsimp only)
      refine hK _ _ ?_
      clear hK K
      refine wpAnyIn_ready (rs := [11]) (by kernel_rfl) (by simp) ?_
      refine AllReadyIn.cons (o := ⟨some 53, _, _, _, _, _⟩) rfl (fun K hK => ?_) ?_
      ·go_simp
       refine hK _ _ ?_
       clear hK K
       refine wpAnyIn_ready (rs := [12]) (by kernel_rfl) (by simp) ?_
       refine AllReadyIn.cons (o := ⟨some 54, _, _, _, _, _⟩) rfl (fun K hK => ?_) ?_
       ·go_simp
        refine hK _ _ ?_
        clear hK K
        refine wpAnyIn_done (by kernel_rfl) ?_ _
        exact ⟨rfl, ⟨_, _, _, _, _, _, _, _, _, _, _, _, rfl⟩, grow_step ab k3⟩
       exact AllReadyIn.nil
      exact AllReadyIn.nil
     exact AllReadyIn.nil
    exact AllReadyIn.nil
   exact AllReadyIn.nil
  exact AllReadyIn.nil
 refine AllReadyIn.cons (o := ⟨some 51, _, _, _, _, _⟩) rfl (fun K hK => ?_) ?_
 ·go_simp
  refine hK _ _ ?_
  clear hK K
  refine wpAnyIn_ready (rs := [6, 7]) (by kernel_rfl) (by simp) ?_
  refine AllReadyIn.cons (o := ⟨some 48, _, _, _, _, _⟩) rfl (fun K hK => ?_) ?_
  ·go_simp
   refine hK _ _ ?_
   clear hK K
   refine wpAnyIn_ready (rs := [7]) (by kernel_rfl) (by simp) ?_
   refine AllReadyIn.cons (o := ⟨some 49, _, _, _, _, _⟩) rfl (fun K hK => ?_) ?_
   ·go_simp
    refine hK _ _ ?_
    clear hK K
    refine wpAnyIn_ready (rs := [8]) (by kernel_rfl) (by simp) ?_
    refine AllReadyIn.cons (o := ⟨some 50, _, _, _, _, _⟩) rfl (fun K hK => ?_) ?_
    ·go_simp
     refine ⟨trivial, ?_⟩; gi_at_call 16; refine (callsIn_wide.2 (over_take hsz hn (hS.below kd) hD)).mono ?_; rintro e w3 ⟨os, oa, on', oc, rfl, orow, omg, ob, od⟩; have k3 := grow_step ob kd; have OD := hide (od.trans hyd.out.symm); clear od
     (try dsimp only)
     refine hK _ _ ?_
     clear hK K
     refine wpAnyIn_ready (rs := [10]) (by kernel_rfl) (by simp) ?_
     refine AllReadyIn.cons (o := ⟨some 52, _, _, _, _, _⟩) rfl (fun K hK => ?_) ?_
     ·go_simp
      refine ⟨trivial, ?_⟩; gi_at_call 10; refine (callsIn_wide.2 (are_t orow (owns_later frow k3) (fun x hx => ⟨_, omg x hx⟩) (fun x hx => (fm x hx).imp fun _ k => k.later k3) OD.out (by have := congrArg List.length OD.out; simp at this; omega))).mono ?_; rintro e w4 ⟨rfl, ab⟩
      (try dsimp only)
      refine hK _ _ ?_
      clear hK K
      refine wpAnyIn_ready (rs := [11]) (by kernel_rfl) (by simp) ?_
      refine AllReadyIn.cons (o := ⟨some 53, _, _, _, _, _⟩) rfl (fun K hK => ?_) ?_
      ·go_simp
       refine hK _ _ ?_
       clear hK K
       refine wpAnyIn_ready (rs := [12]) (by kernel_rfl) (by simp) ?_
       refine AllReadyIn.cons (o := ⟨some 54, _, _, _, _, _⟩) rfl (fun K hK => ?_) ?_
       ·go_simp
        refine hK _ _ ?_
        clear hK K
        refine wpAnyIn_done (by kernel_rfl) ?_ _
        exact ⟨rfl, ⟨_, _, _, _, _, _, _, _, _, _, _, _, rfl⟩, grow_step ab k3⟩
       exact AllReadyIn.nil
      exact AllReadyIn.nil
     exact AllReadyIn.nil
    exact AllReadyIn.nil
   exact AllReadyIn.nil
  refine AllReadyIn.cons (o := ⟨some 49, _, _, _, _, _⟩) rfl (fun K hK => ?_) ?_
  ·go_simp
   refine hK _ _ ?_
   clear hK K
   refine wpAnyIn_ready (rs := [6]) (by kernel_rfl) (by simp) ?_
   refine AllReadyIn.cons (o := ⟨some 48, _, _, _, _, _⟩) rfl (fun K hK => ?_) ?_
   ·go_simp
    refine hK _ _ ?_
    clear hK K
    refine wpAnyIn_ready (rs := [8]) (by kernel_rfl) (by simp) ?_
    refine AllReadyIn.cons (o := ⟨some 50, _, _, _, _, _⟩) rfl (fun K hK => ?_) ?_
    ·go_simp
     refine ⟨trivial, ?_⟩; gi_at_call 16; refine (callsIn_wide.2 (over_take hsz hn (hS.below kd) hD)).mono ?_; rintro e w3 ⟨os, oa, on', oc, rfl, orow, omg, ob, od⟩; have k3 := grow_step ob kd; have OD := hide (od.trans hyd.out.symm); clear od
     (try dsimp only)
     refine hK _ _ ?_
     clear hK K
     refine wpAnyIn_ready (rs := [10]) (by kernel_rfl) (by simp) ?_
     refine AllReadyIn.cons (o := ⟨some 52, _, _, _, _, _⟩) rfl (fun K hK => ?_) ?_
     ·go_simp
      refine ⟨trivial, ?_⟩; gi_at_call 10; refine (callsIn_wide.2 (are_t orow (owns_later frow k3) (fun x hx => ⟨_, omg x hx⟩) (fun x hx => (fm x hx).imp fun _ k => k.later k3) OD.out (by have := congrArg List.length OD.out; simp at this; omega))).mono ?_; rintro e w4 ⟨rfl, ab⟩
      (try dsimp only)
      refine hK _ _ ?_
      clear hK K
      refine wpAnyIn_ready (rs := [11]) (by kernel_rfl) (by simp) ?_
      refine AllReadyIn.cons (o := ⟨some 53, _, _, _, _, _⟩) rfl (fun K hK => ?_) ?_
      ·go_simp
       refine hK _ _ ?_
       clear hK K
       refine wpAnyIn_ready (rs := [12]) (by kernel_rfl) (by simp) ?_
       refine AllReadyIn.cons (o := ⟨some 54, _, _, _, _, _⟩) rfl (fun K hK => ?_) ?_
       ·go_simp
        refine hK _ _ ?_
        clear hK K
        refine wpAnyIn_done (by kernel_rfl) ?_ _
        exact ⟨rfl, ⟨_, _, _, _, _, _, _, _, _, _, _, _, rfl⟩, grow_step ab k3⟩
       exact AllReadyIn.nil
      exact AllReadyIn.nil
     exact AllReadyIn.nil
    exact AllReadyIn.nil
   exact AllReadyIn.nil
  exact AllReadyIn.nil
 exact AllReadyIn.nil

set_option maxRecDepth 100000 in
set_option maxHeartbeats 6400000 in
theorem lw_reg10 {s : ByteArray} {b5 bz n vl vc fl fc p : Nat} {va fa : Option Addr} {zs ys : List TM} {x0 : Int} {Wc : World} {u1 u2 u3 u4 u6 u9 u10 u11 u12 u13 u14 u15 u16 u17 u18 u19 u20 u21 u22 u23 u24 u25 u26 u27 u28 u29 u30 u31 u32 u33 u34 u35 u36 u37 u38 u39 u40 u41 u42 u43 u44 u45 u46 u47 u48 u49 u50 u51 u52 u53 u54 u55 u56 u57 u58 u59 u60 u61 u62 u63 u64 u65 u66 u67 u68 u69 u70 u71 u72 u73 u74 u75 u76 u77 u78 u79 u80 u81 u82 u83 u84 u85 u86 u87 u88 u89 u90 u91 u92 u93 u94 u95 u96 : Value}
  (hs : s.size ≤ 1048576) (hn : n ≤ 1099511627776) (hS : Sgn Wc) (hD : Lxs s (zs.map TM.d) x0 p) (c5 : Boxed Wc b5 22 (.slice va vl vc))
  (zrow : Wc.ownsRow bz 46 5 (.slice va vl vc) zs.length (zs.flatMap V5)) (zm : ∀ x ∈ zs, ∃ w0, Mg w0 Wc x)
  (frow : Wc.ownsRow bz 46 5 (.slice fa fl fc) ys.length (ys.flatMap V5)) (fm : ∀ x ∈ ys, ∃ w0, Mg w0 Wc x) (hyd : Hid (ys.map TM.d = (zs.map TM.d).take n)) (hzl : zs.length ≤ s.size) (hyl : ys.length ≤ s.size) :
  (lwReg10At Tryd.f4).wpIn Fence.wide 5 Tryd.prog (fun e a' W' => e = .normal ∧ (∃ v42 v43 v44 v45 v46 v47 v48 v49 v50 v51 v52 v53 : Value, a' = ⟨#[.string s, u1, u2, u3, u4, .pointer (some ⟨b5, 0, none⟩), u6, .int .i64 n, .slice fa fl fc, u9, u10, u11, u12, u13, u14, u15, u16, u17, u18, u19, u20, u21, u22, u23, u24, u25, u26, u27, u28, u29, u30, u31, u32, u33, u34, u35, u36, u37, u38, u39, u40, u41, v42, v43, v44, v45, v46, v47, v48, v49, v50, v51, v52, v53, .bool false, u55, u56, u57, u58, u59, u60, u61, u62, u63, u64, u65, u66, u67, u68, u69, u70, u71, u72, u73, u74, u75, u76, u77, u78, u79, u80, u81, u82, u83, u84, u85, u86, u87, u88, u89, u90, u91, u92, u93, u94, u95, u96], []⟩) ∧ Below Wc.heap.size Wc W') ⟨#[.string s, u1, u2, u3, u4, .pointer (some ⟨b5, 0, none⟩), u6, .int .i64 n, .slice fa fl fc, u9, u10, u11, u12, u13, u14, u15, u16, u17, u18, u19, u20, u21, u22, u23, u24, u25, u26, u27, u28, u29, u30, u31, u32, u33, u34, u35, u36, u37, u38, u39, u40, u41, u42, u43, u44, u45, u46, u47, u48, u49, u50, u51, u52, u53, u54, u55, u56, u57, u58, u59, u60, u61, u62, u63, u64, u65, u66, u67, u68, u69, u70, u71, u72, u73, u74, u75, u76, u77, u78, u79, u80, u81, u82, u83, u84, u85, u86, u87, u88, u89, u90, u91, u92, u93, u94, u95, u96], []⟩ Wc := by
 conv in lwReg10At _ => whnf
 have hsz : s.size ≤ 1099511627776 := by omega
 have k0 : Below Wc.heap.size Wc Wc.drew := (Below.refl _ _).drew
 have c5c := c5.cell
 refine wpIn_region_any (by kernel_rfl) ?_
 show wpAnyIn _ _ _ _ _ _ 13 _ _ _
 refine wpAnyIn_ready (rs := [0, 2]) (by kernel_rfl) (by simp) ?_
 refine AllReadyIn.cons (o := ⟨some 42, _, _, _, _, _⟩) rfl (fun K hK => ?_) ?_
 ·go_simp
  refine hK _ _ ?_
  clear hK K
  refine wpAnyIn_ready (rs := [1, 2]) (by kernel_rfl) (by simp) ?_
  refine AllReadyIn.cons (o := ⟨some 43, _, _, _, _, _⟩) rfl (fun K hK => ?_) ?_
  ·go_simp
   refine ⟨trivial, ?_⟩; gi_at_call 16; refine (callsIn_wide.2 (over_all hsz (hS.below k0) hD)).mono ?_; rintro e w3 ⟨xs, xa, xn, xc, rfl, xrow, xmg, xb, xd⟩; have k3 := grow_step xb k0; have c5b := (boxed_later c5 k3).cell; have XD := hide xd; clear xd
   (try dsimp only)
   refine hK _ _ ?_
   clear hK K
   refine wpAnyIn_ready (rs := [2]) (by kernel_rfl) (by simp) ?_
   refine AllReadyIn.cons (o := ⟨some 44, _, _, _, _, _⟩) rfl (fun K hK => ?_) ?_
   ·go_simp
    refine hK _ _ ?_
    clear hK K
    refine wpAnyIn_ready (rs := [3]) (by kernel_rfl) (by simp) ?_
    refine AllReadyIn.cons (o := ⟨some 45, _, _, _, _, _⟩) rfl (fun K hK => ?_) ?_
    ·go_simp
     refine ⟨trivial, ?_⟩; gi_at_call 10; refine (callsIn_wide.2 (are_t xrow (owns_later zrow k3) (fun x hx => ⟨_, xmg x hx⟩) (fun x hx => (zm x hx).imp fun _ k => k.later k3) XD.out (by have := congrArg List.length XD.out; simp at this; omega))).mono ?_; rintro e w4 ⟨rfl, ab⟩; have k4 := grow_step ab k3
     (try dsimp only)
     refine hK _ _ ?_
     clear hK K
     refine wpAnyIn_ready (rs := [4]) (by kernel_rfl) (by simp) ?_
     refine AllReadyIn.cons (o := ⟨some 46, _, _, _, _, _⟩) rfl (fun K hK => ?_) ?_
     ·go_simp
      refine hK _ _ ?_
      clear hK K
      refine wpAnyIn_ready (rs := [5]) (by kernel_rfl) (by simp) ?_
      refine AllReadyIn.cons (o := ⟨some 47, _, _, _, _, _⟩) rfl (fun K hK => ?_) ?_
      ·go_simp
       refine hK _ _ ?_
       clear hK K
       exact anyIn_listed10 (by kernel_rfl) (lw_reg10b hs hn hS hD frow fm hyd hyl k4)
      exact AllReadyIn.nil
     exact AllReadyIn.nil
    exact AllReadyIn.nil
   exact AllReadyIn.nil
  refine AllReadyIn.cons (o := ⟨some 44, _, _, _, _, _⟩) rfl (fun K hK => ?_) ?_
  ·go_simp
   refine hK _ _ ?_
   clear hK K
   refine wpAnyIn_ready (rs := [1]) (by kernel_rfl) (by simp) ?_
   refine AllReadyIn.cons (o := ⟨some 43, _, _, _, _, _⟩) rfl (fun K hK => ?_) ?_
   ·go_simp
    refine ⟨trivial, ?_⟩; gi_at_call 16; refine (callsIn_wide.2 (over_all hsz (hS.below k0) hD)).mono ?_; rintro e w3 ⟨xs, xa, xn, xc, rfl, xrow, xmg, xb, xd⟩; have k3 := grow_step xb k0; have c5b := (boxed_later c5 k3).cell; have XD := hide xd; clear xd
    (try dsimp only)
    refine hK _ _ ?_
    clear hK K
    refine wpAnyIn_ready (rs := [3]) (by kernel_rfl) (by simp) ?_
    refine AllReadyIn.cons (o := ⟨some 45, _, _, _, _, _⟩) rfl (fun K hK => ?_) ?_
    ·go_simp
     refine ⟨trivial, ?_⟩; gi_at_call 10; refine (callsIn_wide.2 (are_t xrow (owns_later zrow k3) (fun x hx => ⟨_, xmg x hx⟩) (fun x hx => (zm x hx).imp fun _ k => k.later k3) XD.out (by have := congrArg List.length XD.out; simp at this; omega))).mono ?_; rintro e w4 ⟨rfl, ab⟩; have k4 := grow_step ab k3
     (try dsimp only)
     refine hK _ _ ?_
     clear hK K
     refine wpAnyIn_ready (rs := [4]) (by kernel_rfl) (by simp) ?_
     refine AllReadyIn.cons (o := ⟨some 46, _, _, _, _, _⟩) rfl (fun K hK => ?_) ?_
     ·go_simp
      refine hK _ _ ?_
      clear hK K
      refine wpAnyIn_ready (rs := [5]) (by kernel_rfl) (by simp) ?_
      refine AllReadyIn.cons (o := ⟨some 47, _, _, _, _, _⟩) rfl (fun K hK => ?_) ?_
      ·go_simp
       refine hK _ _ ?_
       clear hK K
       exact anyIn_listed10 (by kernel_rfl) (lw_reg10b hs hn hS hD frow fm hyd hyl k4)
      exact AllReadyIn.nil
     exact AllReadyIn.nil
    exact AllReadyIn.nil
   exact AllReadyIn.nil
  exact AllReadyIn.nil
 refine AllReadyIn.cons (o := ⟨some 44, _, _, _, _, _⟩) rfl (fun K hK => ?_) ?_
 ·go_simp
  refine hK _ _ ?_
  clear hK K
  refine wpAnyIn_ready (rs := [0]) (by kernel_rfl) (by simp) ?_
  refine AllReadyIn.cons (o := ⟨some 42, _, _, _, _, _⟩) rfl (fun K hK => ?_) ?_
  ·go_simp
   refine hK _ _ ?_
   clear hK K
   refine wpAnyIn_ready (rs := [1]) (by kernel_rfl) (by simp) ?_
   refine AllReadyIn.cons (o := ⟨some 43, _, _, _, _, _⟩) rfl (fun K hK => ?_) ?_
   ·go_simp
    refine ⟨trivial, ?_⟩; gi_at_call 16; refine (callsIn_wide.2 (over_all hsz (hS.below k0) hD)).mono ?_; rintro e w3 ⟨xs, xa, xn, xc, rfl, xrow, xmg, xb, xd⟩; have k3 := grow_step xb k0; have c5b := (boxed_later c5 k3).cell; have XD := hide xd; clear xd
    (try dsimp only)
    refine hK _ _ ?_
    clear hK K
    refine wpAnyIn_ready (rs := [3]) (by kernel_rfl) (by simp) ?_
    refine AllReadyIn.cons (o := ⟨some 45, _, _, _, _, _⟩) rfl (fun K hK => ?_) ?_
    ·go_simp
     refine ⟨trivial, ?_⟩; gi_at_call 10; refine (callsIn_wide.2 (are_t xrow (owns_later zrow k3) (fun x hx => ⟨_, xmg x hx⟩) (fun x hx => (zm x hx).imp fun _ k => k.later k3) XD.out (by have := congrArg List.length XD.out; simp at this; omega))).mono ?_; rintro e w4 ⟨rfl, ab⟩; have k4 := grow_step ab k3
     (try dsimp only)
     refine hK _ _ ?_
     clear hK K
     refine wpAnyIn_ready (rs := [4]) (by kernel_rfl) (by simp) ?_
     refine AllReadyIn.cons (o := ⟨some 46, _, _, _, _, _⟩) rfl (fun K hK => ?_) ?_
     ·go_simp
      refine hK _ _ ?_
      clear hK K
      refine wpAnyIn_ready (rs := [5]) (by kernel_rfl) (by simp) ?_
      refine AllReadyIn.cons (o := ⟨some 47, _, _, _, _, _⟩) rfl (fun K hK => ?_) ?_
      ·go_simp
       refine hK _ _ ?_
       clear hK K
       exact anyIn_listed10 (by kernel_rfl) (lw_reg10b hs hn hS hD frow fm hyd hyl k4)
      exact AllReadyIn.nil
     exact AllReadyIn.nil
    exact AllReadyIn.nil
   exact AllReadyIn.nil
  exact AllReadyIn.nil
 exact AllReadyIn.nil
end Go.Proofs.YtcgdhbgjmapoeaaDoor

namespace Go.Proofs.YtcgdhbgjmapoeaaDoor
open Go.RowKit Go.Shelf
attribute [local go_sem] Oper.semAt_some

def isRegion23 : Code → Bool
 | .region m _ _ => m == 23
 | _ => false
def region23Of : Code → Option Code
 | .rangeFunc _ _ _ b => region23Of b
 | .seq a b => match region23Of a with
  | some c => some c
  | none => region23Of b
 | .cond _ a b => match region23Of a with
  | some c => some c
  | none => region23Of b
 | .block _ c => region23Of c
 | .scope c => region23Of c
 | .loop c => region23Of c
 | c => if isRegion23 c then some c else none
def lwReg23At (f : Func) : Code := (f.body.bind region23Of).getD .skip
/-- the way through the region from where some operations are done -/
def regAny23 (F : Fence) (n : Nat) (P : Program) (c : Code) (Q : Exit → Act → World → Prop) (fuel : Nat) (listed : Array Bool) (a : Act) (w : World) : Prop :=
 match c with
 | .region _ ops _ => wpAnyIn F n P .any ops Q fuel listed a w
 | _ => False
def upTo23 (n m : Nat) : Array Bool := (List.replicate n true ++ List.replicate m false).toArray
theorem anyIn_listed23 {F : Fence} {n : Nat} {P : Program} {md : Region.Mode} {ops : Array Oper} {Q : Exit → Act → World → Prop} {fuel : Nat} {l l' : Array Bool} {a : Act} {w : World} (h : l = l') (k : wpAnyIn F n P md ops Q fuel l' a w) : wpAnyIn F n P md ops Q fuel l a w := h ▸ k

set_option maxRecDepth 100000 in
set_option maxHeartbeats 6400000 in
theorem lw_reg23b {l m b5 bj bt g kk n cap : Nat} {x y : TM} {w0 w5 Wc : World} {u0 u1 u2 u3 u4 u6 u7 u8 u9 u10 u11 u14 u15 u16 u17 u18 u19 u20 u21 u22 u23 u24 u25 u26 u27 u28 u29 u30 u31 u32 u33 u34 u35 u36 u37 u38 u39 u40 u41 u42 u43 u44 u45 u46 u47 u48 u49 u50 u51 u52 u53 u54 u55 u56 u57 u58 u59 u60 u61 u62 u63 u64 u65 u66 u67 u68 u69 u70 u71 u72 u73 u74 u75 u76 u77 u78 u79 u80 u81 u83 u84 u85 u86 u87 u88 u89 u90 u91 u92 u93 u94 u95 u96 : Value}
  (h5c : Wc.cell? ⟨b5, 0, none⟩ = some (.slice (some ⟨g, 0, none⟩) n cap)) (x3c : Wc.cell? ⟨bj, 0, none⟩ = some (.int .i64 kk))
  (y0 : Wc.cell? ⟨bt, 0, none⟩ = some (.int .i64 x.d.kind)) (y1 : Wc.cell? ⟨bt, 1, none⟩ = some (.string x.d.text)) (y2 : Wc.cell? ⟨bt, 2, none⟩ = some (.bool false)) (y4 : Wc.cell? ⟨bt, 3, none⟩ = some (.slice x.ad x.len x.cap)) (y5 : Wc.cell? ⟨bt, 4, none⟩ = some (.int .i64 x.d.at'))
  (q0 : Wc.cell? ⟨g, kk * 5, none⟩ = some (.int .i64 y.d.kind)) (q1 : Wc.cell? ⟨g, kk * 5 + 1, none⟩ = some (.string y.d.text)) (q2 : Wc.cell? ⟨g, kk * 5 + 2, none⟩ = some (.bool false)) (q3 : Wc.cell? ⟨g, kk * 5 + 3, none⟩ = some (.slice y.ad y.len y.cap)) (q4 : Wc.cell? ⟨g, kk * 5 + 4, none⟩ = some (.int .i64 y.d.at'))
  (hk : kk < n) (_hc1 : n ≤ cap) (_hc2 : cap ≤ 9223372036854775807) (_hk4 : kk ≤ 4096) (m3 : Mg w0 Wc x) (hmz : Mg w5 Wc y) (hd : Hid (x.d = y.d)) :
  regAny23 (Fence.wide.inRound l) m Tryd.prog (lwReg23At Tryd.f4) (fun e a' W' => e = .normal ∧ (∃ v78 v79 v80 v81 v82 v83 v84 v85 v86 v87 v88 v89 : Value, a' = ⟨#[u0, u1, u2, u3, u4, .pointer (some ⟨b5, 0, none⟩), u6, u7, u8, u9, u10, u11, .pointer (some ⟨bj, 0, none⟩), .pointer (some ⟨bt, 0, none⟩), u14, u15, u16, u17, u18, u19, u20, u21, u22, u23, u24, u25, u26, u27, u28, u29, u30, u31, u32, u33, u34, u35, u36, u37, u38, u39, u40, u41, u42, u43, u44, u45, u46, u47, u48, u49, u50, u51, u52, u53, u54, u55, u56, u57, u58, u59, u60, u61, u62, u63, u64, u65, u66, u67, u68, u69, u70, u71, u72, u73, u74, u75, u76, u77, v78, v79, v80, v81, v82, v83, v84, v85, v86, v87, v88, v89, .bool false, u91, u92, u93, u94, u95, u96], []⟩) ∧ Below Wc.heap.size Wc W') 8 (upTo23 5 8) ⟨#[u0, u1, u2, u3, u4, .pointer (some ⟨b5, 0, none⟩), u6, u7, u8, u9, u10, u11, .pointer (some ⟨bj, 0, none⟩), .pointer (some ⟨bt, 0, none⟩), u14, u15, u16, u17, u18, u19, u20, u21, u22, u23, u24, u25, u26, u27, u28, u29, u30, u31, u32, u33, u34, u35, u36, u37, u38, u39, u40, u41, u42, u43, u44, u45, u46, u47, u48, u49, u50, u51, u52, u53, u54, u55, u56, u57, u58, u59, u60, u61, u62, u63, u64, u65, u66, u67, u68, u69, u70, u71, u72, u73, u74, u75, u76, u77, u78, u79, u80, u81, .bool false, u83, u84, u85, u86, u87, u88, u89, u90, u91, u92, u93, u94, u95, u96], []⟩ Wc.drew := by
 have hkb : (kk : Int) < n := by omega
 conv in lwReg23At _ => whnf
 dsimp only [regAny23]
 replace m3 := m3.later (Below.refl Wc.heap.size Wc).drew
 replace hmz := hmz.later (Below.refl Wc.heap.size Wc).drew
 refine wpAnyIn_ready (rs := [5, 6, 7]) (by kernel_rfl) (by simp) ?_
 refine AllReadyIn.cons (o := ⟨some 83, _, _, _, _, _⟩) rfl (fun K hK => ?_) ?_
 ·go_simp
  refine hK _ _ ?_
  clear hK K
  refine wpAnyIn_ready (rs := [6, 7]) (by kernel_rfl) (by simp) ?_
  refine AllReadyIn.cons (o := ⟨some 84, _, _, _, _, _⟩) rfl (fun K hK => ?_) ?_
  ·go_simp
   refine hK _ _ ?_
   clear hK K
   refine wpAnyIn_ready (rs := [7]) (by kernel_rfl) (by simp) ?_
   refine AllReadyIn.cons (o := ⟨some 85, _, _, _, _, _⟩) rfl (fun K hK => ?_) ?_
   ·go_simp
    refine hK _ _ ?_
    clear hK K
    refine wpAnyIn_ready (rs := [8]) (by kernel_rfl) (by simp) ?_
    refine AllReadyIn.cons (o := ⟨some 86, _, _, _, _, _⟩) rfl (fun K hK => ?_) ?_
    ·go_simp
     refine hK _ _ ?_
     clear hK K
     refine wpAnyIn_ready (rs := [9]) (by kernel_rfl) (by simp) ?_
     refine AllReadyIn.cons (o := ⟨some 87, _, _, _, _, _⟩) rfl (fun K hK => ?_) ?_
     ·go_simp
      refine hK _ _ ?_
      clear hK K
      refine wpAnyIn_ready (rs := [10]) (by kernel_rfl) (by simp) ?_
      refine AllReadyIn.cons (o := ⟨some 88, _, _, _, _, _⟩) rfl (fun K hK => ?_) ?_
      ·go_simp
       refine ⟨trivial, fun h => absurd h (by decide), ?_⟩; gi_at_call 17; refine (CallsIn.inRound _ (callsIn_wide.2 (is3_e m3 hmz hd.out))).mono ?_; rintro e w3 ⟨rfl, hb3⟩
       (try dsimp only)
       refine hK _ _ ?_
       clear hK K
       refine wpAnyIn_ready (rs := [11]) (by kernel_rfl) (by simp) ?_
       refine AllReadyIn.cons (o := ⟨some 89, _, _, _, _, _⟩) rfl (fun K hK => ?_) ?_
       ·go_simp
        refine hK _ _ ?_
        clear hK K
        refine wpAnyIn_ready (rs := [12]) (by kernel_rfl) (by simp) ?_
        refine AllReadyIn.cons (o := ⟨some 90, _, _, _, _, _⟩) rfl (fun K hK => ?_) ?_
        ·go_simp
         refine hK _ _ ?_
         clear hK K
         refine wpAnyIn_done (by kernel_rfl) ?_ _
         exact ⟨rfl, ⟨_, _, _, _, _, _, _, _, _, _, _, _, rfl⟩, grow_step hb3 (Below.refl Wc.heap.size Wc).drew⟩
        exact AllReadyIn.nil
       exact AllReadyIn.nil
      exact AllReadyIn.nil
     exact AllReadyIn.nil
    exact AllReadyIn.nil
   exact AllReadyIn.nil
  refine AllReadyIn.cons (o := ⟨some 85, _, _, _, _, _⟩) rfl (fun K hK => ?_) ?_
  ·go_simp
   refine hK _ _ ?_
   clear hK K
   refine wpAnyIn_ready (rs := [6]) (by kernel_rfl) (by simp) ?_
   refine AllReadyIn.cons (o := ⟨some 84, _, _, _, _, _⟩) rfl (fun K hK => ?_) ?_
   ·go_simp
    refine hK _ _ ?_
    clear hK K
    refine wpAnyIn_ready (rs := [8]) (by kernel_rfl) (by simp) ?_
    refine AllReadyIn.cons (o := ⟨some 86, _, _, _, _, _⟩) rfl (fun K hK => ?_) ?_
    ·go_simp
     refine hK _ _ ?_
     clear hK K
     refine wpAnyIn_ready (rs := [9]) (by kernel_rfl) (by simp) ?_
     refine AllReadyIn.cons (o := ⟨some 87, _, _, _, _, _⟩) rfl (fun K hK => ?_) ?_
     ·go_simp
      refine hK _ _ ?_
      clear hK K
      refine wpAnyIn_ready (rs := [10]) (by kernel_rfl) (by simp) ?_
      refine AllReadyIn.cons (o := ⟨some 88, _, _, _, _, _⟩) rfl (fun K hK => ?_) ?_
      ·go_simp
       refine ⟨trivial, fun h => absurd h (by decide), ?_⟩; gi_at_call 17; refine (CallsIn.inRound _ (callsIn_wide.2 (is3_e m3 hmz hd.out))).mono ?_; rintro e w3 ⟨rfl, hb3⟩
       (try dsimp only)
       refine hK _ _ ?_
       clear hK K
       refine wpAnyIn_ready (rs := [11]) (by kernel_rfl) (by simp) ?_
       refine AllReadyIn.cons (o := ⟨some 89, _, _, _, _, _⟩) rfl (fun K hK => ?_) ?_
       ·go_simp
        refine hK _ _ ?_
        clear hK K
        refine wpAnyIn_ready (rs := [12]) (by kernel_rfl) (by simp) ?_
        refine AllReadyIn.cons (o := ⟨some 90, _, _, _, _, _⟩) rfl (fun K hK => ?_) ?_
        ·go_simp
         refine hK _ _ ?_
         clear hK K
         refine wpAnyIn_done (by kernel_rfl) ?_ _
         exact ⟨rfl, ⟨_, _, _, _, _, _, _, _, _, _, _, _, rfl⟩, grow_step hb3 (Below.refl Wc.heap.size Wc).drew⟩
        exact AllReadyIn.nil
       exact AllReadyIn.nil
      exact AllReadyIn.nil
     exact AllReadyIn.nil
    exact AllReadyIn.nil
   exact AllReadyIn.nil
  exact AllReadyIn.nil
 refine AllReadyIn.cons (o := ⟨some 84, _, _, _, _, _⟩) rfl (fun K hK => ?_) ?_
 ·go_simp
  refine hK _ _ ?_
  clear hK K
  refine wpAnyIn_ready (rs := [5, 7]) (by kernel_rfl) (by simp) ?_
  refine AllReadyIn.cons (o := ⟨some 83, _, _, _, _, _⟩) rfl (fun K hK => ?_) ?_
  ·go_simp
   refine hK _ _ ?_
   clear hK K
   refine wpAnyIn_ready (rs := [7]) (by kernel_rfl) (by simp) ?_
   refine AllReadyIn.cons (o := ⟨some 85, _, _, _, _, _⟩) rfl (fun K hK => ?_) ?_
   ·go_simp
    refine hK _ _ ?_
    clear hK K
    refine wpAnyIn_ready (rs := [8]) (by kernel_rfl) (by simp) ?_
    refine AllReadyIn.cons (o := ⟨some 86, _, _, _, _, _⟩) rfl (fun K hK => ?_) ?_
    ·go_simp
     refine hK _ _ ?_
     clear hK K
     refine wpAnyIn_ready (rs := [9]) (by kernel_rfl) (by simp) ?_
     refine AllReadyIn.cons (o := ⟨some 87, _, _, _, _, _⟩) rfl (fun K hK => ?_) ?_
     ·go_simp
      refine hK _ _ ?_
      clear hK K
      refine wpAnyIn_ready (rs := [10]) (by kernel_rfl) (by simp) ?_
      refine AllReadyIn.cons (o := ⟨some 88, _, _, _, _, _⟩) rfl (fun K hK => ?_) ?_
      ·go_simp
       refine ⟨trivial, fun h => absurd h (by decide), ?_⟩; gi_at_call 17; refine (CallsIn.inRound _ (callsIn_wide.2 (is3_e m3 hmz hd.out))).mono ?_; rintro e w3 ⟨rfl, hb3⟩
       (try dsimp only)
       refine hK _ _ ?_
       clear hK K
       refine wpAnyIn_ready (rs := [11]) (by kernel_rfl) (by simp) ?_
       refine AllReadyIn.cons (o := ⟨some 89, _, _, _, _, _⟩) rfl (fun K hK => ?_) ?_
       ·go_simp
        refine hK _ _ ?_
        clear hK K
        refine wpAnyIn_ready (rs := [12]) (by kernel_rfl) (by simp) ?_
        refine AllReadyIn.cons (o := ⟨some 90, _, _, _, _, _⟩) rfl (fun K hK => ?_) ?_
        ·go_simp
         refine hK _ _ ?_
         clear hK K
         refine wpAnyIn_done (by kernel_rfl) ?_ _
         exact ⟨rfl, ⟨_, _, _, _, _, _, _, _, _, _, _, _, rfl⟩, grow_step hb3 (Below.refl Wc.heap.size Wc).drew⟩
        exact AllReadyIn.nil
       exact AllReadyIn.nil
      exact AllReadyIn.nil
     exact AllReadyIn.nil
    exact AllReadyIn.nil
   exact AllReadyIn.nil
  refine AllReadyIn.cons (o := ⟨some 85, _, _, _, _, _⟩) rfl (fun K hK => ?_) ?_
  ·go_simp
   refine hK _ _ ?_
   clear hK K
   refine wpAnyIn_ready (rs := [5, 8]) (by kernel_rfl) (by simp) ?_
   refine AllReadyIn.cons (o := ⟨some 83, _, _, _, _, _⟩) rfl (fun K hK => ?_) ?_
   ·go_simp
    refine hK _ _ ?_
    clear hK K
    refine wpAnyIn_ready (rs := [8]) (by kernel_rfl) (by simp) ?_
    refine AllReadyIn.cons (o := ⟨some 86, _, _, _, _, _⟩) rfl (fun K hK => ?_) ?_
    ·go_simp
     refine hK _ _ ?_
     clear hK K
     refine wpAnyIn_ready (rs := [9]) (by kernel_rfl) (by simp) ?_
     refine AllReadyIn.cons (o := ⟨some 87, _, _, _, _, _⟩) rfl (fun K hK => ?_) ?_
     ·go_simp
      refine hK _ _ ?_
      clear hK K
      refine wpAnyIn_ready (rs := [10]) (by kernel_rfl) (by simp) ?_
      refine AllReadyIn.cons (o := ⟨some 88, _, _, _, _, _⟩) rfl (fun K hK => ?_) ?_
      ·go_simp
       refine ⟨trivial, fun h => absurd h (by decide), ?_⟩; gi_at_call 17; refine (CallsIn.inRound _ (callsIn_wide.2 (is3_e m3 hmz hd.out))).mono ?_; rintro e w3 ⟨rfl, hb3⟩
       (try dsimp only)
       refine hK _ _ ?_
       clear hK K
       refine wpAnyIn_ready (rs := [11]) (by kernel_rfl) (by simp) ?_
       refine AllReadyIn.cons (o := ⟨some 89, _, _, _, _, _⟩) rfl (fun K hK => ?_) ?_
       ·go_simp
        refine hK _ _ ?_
        clear hK K
        refine wpAnyIn_ready (rs := [12]) (by kernel_rfl) (by simp) ?_
        refine AllReadyIn.cons (o := ⟨some 90, _, _, _, _, _⟩) rfl (fun K hK => ?_) ?_
        ·go_simp
         refine hK _ _ ?_
         clear hK K
         refine wpAnyIn_done (by kernel_rfl) ?_ _
         exact ⟨rfl, ⟨_, _, _, _, _, _, _, _, _, _, _, _, rfl⟩, grow_step hb3 (Below.refl Wc.heap.size Wc).drew⟩
        exact AllReadyIn.nil
       exact AllReadyIn.nil
      exact AllReadyIn.nil
     exact AllReadyIn.nil
    exact AllReadyIn.nil
   refine AllReadyIn.cons (o := ⟨some 86, _, _, _, _, _⟩) rfl (fun K hK => ?_) ?_
   ·go_simp
    refine hK _ _ ?_
    clear hK K
    refine wpAnyIn_ready (rs := [5, 9]) (by kernel_rfl) (by simp) ?_
    refine AllReadyIn.cons (o := ⟨some 83, _, _, _, _, _⟩) rfl (fun K hK => ?_) ?_
    ·go_simp
     refine hK _ _ ?_
     clear hK K
     refine wpAnyIn_ready (rs := [9]) (by kernel_rfl) (by simp) ?_
     refine AllReadyIn.cons (o := ⟨some 87, _, _, _, _, _⟩) rfl (fun K hK => ?_) ?_
     ·go_simp
      refine hK _ _ ?_
      clear hK K
      refine wpAnyIn_ready (rs := [10]) (by kernel_rfl) (by simp) ?_
      refine AllReadyIn.cons (o := ⟨some 88, _, _, _, _, _⟩) rfl (fun K hK => ?_) ?_
      ·go_simp
       refine ⟨trivial, fun h => absurd h (by decide), ?_⟩; gi_at_call 17; refine (CallsIn.inRound _ (callsIn_wide.2 (is3_e m3 hmz hd.out))).mono ?_; rintro e w3 ⟨rfl, hb3⟩
       (try dsimp only)
       refine hK _ _ ?_
       clear hK K
       refine wpAnyIn_ready (rs := [11]) (by kernel_rfl) (by simp) ?_
       refine AllReadyIn.cons (o := ⟨some 89, _, _, _, _, _⟩) rfl (fun K hK => ?_) ?_
       ·go_simp
        refine hK _ _ ?_
        clear hK K
        refine wpAnyIn_ready (rs := [12]) (by kernel_rfl) (by simp) ?_
        refine AllReadyIn.cons (o := ⟨some 90, _, _, _, _, _⟩) rfl (fun K hK => ?_) ?_
        ·go_simp
         refine hK _ _ ?_
         clear hK K
         refine wpAnyIn_done (by kernel_rfl) ?_ _
         exact ⟨rfl, ⟨_, _, _, _, _, _, _, _, _, _, _, _, rfl⟩, grow_step hb3 (Below.refl Wc.heap.size Wc).drew⟩
        exact AllReadyIn.nil
       exact AllReadyIn.nil
      exact AllReadyIn.nil
     exact AllReadyIn.nil
    refine AllReadyIn.cons (o := ⟨some 87, _, _, _, _, _⟩) rfl (fun K hK => ?_) ?_
    ·go_simp
     refine hK _ _ ?_
     clear hK K
     refine wpAnyIn_ready (rs := [5]) (by kernel_rfl) (by simp) ?_
     refine AllReadyIn.cons (o := ⟨some 83, _, _, _, _, _⟩) rfl (fun K hK => ?_) ?_
     ·go_simp
      refine hK _ _ ?_
      clear hK K
      refine wpAnyIn_ready (rs := [10]) (by kernel_rfl) (by simp) ?_
      refine AllReadyIn.cons (o := ⟨some 88, _, _, _, _, _⟩) rfl (fun K hK => ?_) ?_
      ·go_simp
       refine ⟨trivial, fun h => absurd h (by decide), ?_⟩; gi_at_call 17; refine (CallsIn.inRound _ (callsIn_wide.2 (is3_e m3 hmz hd.out))).mono ?_; rintro e w3 ⟨rfl, hb3⟩
       (try dsimp only)
       refine hK _ _ ?_
       clear hK K
       refine wpAnyIn_ready (rs := [11]) (by kernel_rfl) (by simp) ?_
       refine AllReadyIn.cons (o := ⟨some 89, _, _, _, _, _⟩) rfl (fun K hK => ?_) ?_
       ·go_simp
        refine hK _ _ ?_
        clear hK K
        refine wpAnyIn_ready (rs := [12]) (by kernel_rfl) (by simp) ?_
        refine AllReadyIn.cons (o := ⟨some 90, _, _, _, _, _⟩) rfl (fun K hK => ?_) ?_
        ·go_simp
         refine hK _ _ ?_
         clear hK K
         refine wpAnyIn_done (by kernel_rfl) ?_ _
         exact ⟨rfl, ⟨_, _, _, _, _, _, _, _, _, _, _, _, rfl⟩, grow_step hb3 (Below.refl Wc.heap.size Wc).drew⟩
        exact AllReadyIn.nil
       exact AllReadyIn.nil
      exact AllReadyIn.nil
     exact AllReadyIn.nil
    exact AllReadyIn.nil
   exact AllReadyIn.nil
  exact AllReadyIn.nil
 refine AllReadyIn.cons (o := ⟨some 85, _, _, _, _, _⟩) rfl (fun K hK => ?_) ?_
 ·go_simp
  refine hK _ _ ?_
  clear hK K
  refine wpAnyIn_ready (rs := [5, 6]) (by kernel_rfl) (by simp) ?_
  refine AllReadyIn.cons (o := ⟨some 83, _, _, _, _, _⟩) rfl (fun K hK => ?_) ?_
  ·go_simp
   refine hK _ _ ?_
   clear hK K
   refine wpAnyIn_ready (rs := [6]) (by kernel_rfl) (by simp) ?_
   refine AllReadyIn.cons (o := ⟨some 84, _, _, _, _, _⟩) rfl (fun K hK => ?_) ?_
   ·go_simp
    refine hK _ _ ?_
    clear hK K
    refine wpAnyIn_ready (rs := [8]) (by kernel_rfl) (by simp) ?_
    refine AllReadyIn.cons (o := ⟨some 86, _, _, _, _, _⟩) rfl (fun K hK => ?_) ?_
    ·go_simp
     refine hK _ _ ?_
     clear hK K
     refine wpAnyIn_ready (rs := [9]) (by kernel_rfl) (by simp) ?_
     refine AllReadyIn.cons (o := ⟨some 87, _, _, _, _, _⟩) rfl (fun K hK => ?_) ?_
     ·go_simp
      refine hK _ _ ?_
      clear hK K
      refine wpAnyIn_ready (rs := [10]) (by kernel_rfl) (by simp) ?_
      refine AllReadyIn.cons (o := ⟨some 88, _, _, _, _, _⟩) rfl (fun K hK => ?_) ?_
      ·go_simp
       refine ⟨trivial, fun h => absurd h (by decide), ?_⟩; gi_at_call 17; refine (CallsIn.inRound _ (callsIn_wide.2 (is3_e m3 hmz hd.out))).mono ?_; rintro e w3 ⟨rfl, hb3⟩
       (try dsimp only)
       refine hK _ _ ?_
       clear hK K
       refine wpAnyIn_ready (rs := [11]) (by kernel_rfl) (by simp) ?_
       refine AllReadyIn.cons (o := ⟨some 89, _, _, _, _, _⟩) rfl (fun K hK => ?_) ?_
       ·go_simp
        refine hK _ _ ?_
        clear hK K
        refine wpAnyIn_ready (rs := [12]) (by kernel_rfl) (by simp) ?_
        refine AllReadyIn.cons (o := ⟨some 90, _, _, _, _, _⟩) rfl (fun K hK => ?_) ?_
        ·go_simp
         refine hK _ _ ?_
         clear hK K
         refine wpAnyIn_done (by kernel_rfl) ?_ _
         exact ⟨rfl, ⟨_, _, _, _, _, _, _, _, _, _, _, _, rfl⟩, grow_step hb3 (Below.refl Wc.heap.size Wc).drew⟩
        exact AllReadyIn.nil
       exact AllReadyIn.nil
      exact AllReadyIn.nil
     exact AllReadyIn.nil
    exact AllReadyIn.nil
   exact AllReadyIn.nil
  refine AllReadyIn.cons (o := ⟨some 84, _, _, _, _, _⟩) rfl (fun K hK => ?_) ?_
  ·go_simp
   refine hK _ _ ?_
   clear hK K
   refine wpAnyIn_ready (rs := [5, 8]) (by kernel_rfl) (by simp) ?_
   refine AllReadyIn.cons (o := ⟨some 83, _, _, _, _, _⟩) rfl (fun K hK => ?_) ?_
   ·go_simp
    refine hK _ _ ?_
    clear hK K
    refine wpAnyIn_ready (rs := [8]) (by kernel_rfl) (by simp) ?_
    refine AllReadyIn.cons (o := ⟨some 86, _, _, _, _, _⟩) rfl (fun K hK => ?_) ?_
    ·go_simp
     refine hK _ _ ?_
     clear hK K
     refine wpAnyIn_ready (rs := [9]) (by kernel_rfl) (by simp) ?_
     refine AllReadyIn.cons (o := ⟨some 87, _, _, _, _, _⟩) rfl (fun K hK => ?_) ?_
     ·go_simp
      refine hK _ _ ?_
      clear hK K
      refine wpAnyIn_ready (rs := [10]) (by kernel_rfl) (by simp) ?_
      refine AllReadyIn.cons (o := ⟨some 88, _, _, _, _, _⟩) rfl (fun K hK => ?_) ?_
      ·go_simp
       refine ⟨trivial, fun h => absurd h (by decide), ?_⟩; gi_at_call 17; refine (CallsIn.inRound _ (callsIn_wide.2 (is3_e m3 hmz hd.out))).mono ?_; rintro e w3 ⟨rfl, hb3⟩
       (try dsimp only)
       refine hK _ _ ?_
       clear hK K
       refine wpAnyIn_ready (rs := [11]) (by kernel_rfl) (by simp) ?_
       refine AllReadyIn.cons (o := ⟨some 89, _, _, _, _, _⟩) rfl (fun K hK => ?_) ?_
       ·go_simp
        refine hK _ _ ?_
        clear hK K
        refine wpAnyIn_ready (rs := [12]) (by kernel_rfl) (by simp) ?_
        refine AllReadyIn.cons (o := ⟨some 90, _, _, _, _, _⟩) rfl (fun K hK => ?_) ?_
        ·go_simp
         refine hK _ _ ?_
         clear hK K
         refine wpAnyIn_done (by kernel_rfl) ?_ _
         exact ⟨rfl, ⟨_, _, _, _, _, _, _, _, _, _, _, _, rfl⟩, grow_step hb3 (Below.refl Wc.heap.size Wc).drew⟩
        exact AllReadyIn.nil
       exact AllReadyIn.nil
      exact AllReadyIn.nil
     exact AllReadyIn.nil
    exact AllReadyIn.nil
   refine AllReadyIn.cons (o := ⟨some 86, _, _, _, _, _⟩) rfl (fun K hK => ?_) ?_
   ·go_simp
    refine hK _ _ ?_
    clear hK K
    refine wpAnyIn_ready (rs := [5, 9]) (by kernel_rfl) (by simp) ?_
    refine AllReadyIn.cons (o := ⟨some 83, _, _, _, _, _⟩) rfl (fun K hK => ?_) ?_
    ·go_simp
     refine hK _ _ ?_
     clear hK K
     refine wpAnyIn_ready (rs := [9]) (by kernel_rfl) (by simp) ?_
     refine AllReadyIn.cons (o := ⟨some 87, _, _, _, _, _⟩) rfl (fun K hK => ?_) ?_
     ·go_simp
      refine hK _ _ ?_
      clear hK K
      refine wpAnyIn_ready (rs := [10]) (by kernel_rfl) (by simp) ?_
      refine AllReadyIn.cons (o := ⟨some 88, _, _, _, _, _⟩) rfl (fun K hK => ?_) ?_
      ·go_simp
       refine ⟨trivial, fun h => absurd h (by decide), ?_⟩; gi_at_call 17; refine (CallsIn.inRound _ (callsIn_wide.2 (is3_e m3 hmz hd.out))).mono ?_; rintro e w3 ⟨rfl, hb3⟩
       (try dsimp only)
       refine hK _ _ ?_
       clear hK K
       refine wpAnyIn_ready (rs := [11]) (by kernel_rfl) (by simp) ?_
       refine AllReadyIn.cons (o := ⟨some 89, _, _, _, _, _⟩) rfl (fun K hK => ?_) ?_
       ·go_simp
        refine hK _ _ ?_
        clear hK K
        refine wpAnyIn_ready (rs := [12]) (by kernel_rfl) (by simp) ?_
        refine AllReadyIn.cons (o := ⟨some 90, _, _, _, _, _⟩) rfl (fun K hK => ?_) ?_
        ·go_simp
         refine hK _ _ ?_
         clear hK K
         refine wpAnyIn_done (by kernel_rfl) ?_ _
         exact ⟨rfl, ⟨_, _, _, _, _, _, _, _, _, _, _, _, rfl⟩, grow_step hb3 (Below.refl Wc.heap.size Wc).drew⟩
        exact AllReadyIn.nil
       exact AllReadyIn.nil
      exact AllReadyIn.nil
     exact AllReadyIn.nil
    refine AllReadyIn.cons (o := ⟨some 87, _, _, _, _, _⟩) rfl (fun K hK => ?_) ?_
    ·go_simp
     refine hK _ _ ?_
     clear hK K
     refine wpAnyIn_ready (rs := [5]) (by kernel_rfl) (by simp) ?_
     refine AllReadyIn.cons (o := ⟨some 83, _, _, _, _, _⟩) rfl (fun K hK => ?_) ?_
     ·go_simp
      refine hK _ _ ?_
      clear hK K
      refine wpAnyIn_ready (rs := [10]) (by kernel_rfl) (by simp) ?_
      refine AllReadyIn.cons (o := ⟨some 88, _, _, _, _, _⟩) rfl (fun K hK => ?_) ?_
      ·go_simp
       refine ⟨trivial, fun h => absurd h (by decide), ?_⟩; gi_at_call 17; refine (CallsIn.inRound _ (callsIn_wide.2 (is3_e m3 hmz hd.out))).mono ?_; rintro e w3 ⟨rfl, hb3⟩
       (try dsimp only)
       refine hK _ _ ?_
       clear hK K
       refine wpAnyIn_ready (rs := [11]) (by kernel_rfl) (by simp) ?_
       refine AllReadyIn.cons (o := ⟨some 89, _, _, _, _, _⟩) rfl (fun K hK => ?_) ?_
       ·go_simp
        refine hK _ _ ?_
        clear hK K
        refine wpAnyIn_ready (rs := [12]) (by kernel_rfl) (by simp) ?_
        refine AllReadyIn.cons (o := ⟨some 90, _, _, _, _, _⟩) rfl (fun K hK => ?_) ?_
        ·go_simp
         refine hK _ _ ?_
         clear hK K
         refine wpAnyIn_done (by kernel_rfl) ?_ _
         exact ⟨rfl, ⟨_, _, _, _, _, _, _, _, _, _, _, _, rfl⟩, grow_step hb3 (Below.refl Wc.heap.size Wc).drew⟩
        exact AllReadyIn.nil
       exact AllReadyIn.nil
      exact AllReadyIn.nil
     exact AllReadyIn.nil
    exact AllReadyIn.nil
   exact AllReadyIn.nil
  exact AllReadyIn.nil
 exact AllReadyIn.nil

set_option maxRecDepth 100000 in
set_option maxHeartbeats 6400000 in
theorem lw_reg23 {l m b5 bj bt g kk n cap : Nat} {x y : TM} {w0 w5 Wc : World} {u0 u1 u2 u3 u4 u6 u7 u8 u9 u10 u11 u14 u15 u16 u17 u18 u19 u20 u21 u22 u23 u24 u25 u26 u27 u28 u29 u30 u31 u32 u33 u34 u35 u36 u37 u38 u39 u40 u41 u42 u43 u44 u45 u46 u47 u48 u49 u50 u51 u52 u53 u54 u55 u56 u57 u58 u59 u60 u61 u62 u63 u64 u65 u66 u67 u68 u69 u70 u71 u72 u73 u74 u75 u76 u77 u78 u79 u80 u81 u82 u83 u84 u85 u86 u87 u88 u89 u90 u91 u92 u93 u94 u95 u96 : Value}
  (h5c : Wc.cell? ⟨b5, 0, none⟩ = some (.slice (some ⟨g, 0, none⟩) n cap)) (x3c : Wc.cell? ⟨bj, 0, none⟩ = some (.int .i64 kk))
  (y0 : Wc.cell? ⟨bt, 0, none⟩ = some (.int .i64 x.d.kind)) (y1 : Wc.cell? ⟨bt, 1, none⟩ = some (.string x.d.text)) (y2 : Wc.cell? ⟨bt, 2, none⟩ = some (.bool false)) (y4 : Wc.cell? ⟨bt, 3, none⟩ = some (.slice x.ad x.len x.cap)) (y5 : Wc.cell? ⟨bt, 4, none⟩ = some (.int .i64 x.d.at'))
  (q0 : Wc.cell? ⟨g, kk * 5, none⟩ = some (.int .i64 y.d.kind)) (q1 : Wc.cell? ⟨g, kk * 5 + 1, none⟩ = some (.string y.d.text)) (q2 : Wc.cell? ⟨g, kk * 5 + 2, none⟩ = some (.bool false)) (q3 : Wc.cell? ⟨g, kk * 5 + 3, none⟩ = some (.slice y.ad y.len y.cap)) (q4 : Wc.cell? ⟨g, kk * 5 + 4, none⟩ = some (.int .i64 y.d.at'))
  (hk : kk < n) (_hc1 : n ≤ cap) (_hc2 : cap ≤ 9223372036854775807) (_hk4 : kk ≤ 4096) (m3 : Mg w0 Wc x) (hmz : Mg w5 Wc y) (hd : Hid (x.d = y.d)) :
  (lwReg23At Tryd.f4).wpIn (Fence.wide.inRound l) m Tryd.prog (fun e a' W' => e = .normal ∧ (∃ v78 v79 v80 v81 v82 v83 v84 v85 v86 v87 v88 v89 : Value, a' = ⟨#[u0, u1, u2, u3, u4, .pointer (some ⟨b5, 0, none⟩), u6, u7, u8, u9, u10, u11, .pointer (some ⟨bj, 0, none⟩), .pointer (some ⟨bt, 0, none⟩), u14, u15, u16, u17, u18, u19, u20, u21, u22, u23, u24, u25, u26, u27, u28, u29, u30, u31, u32, u33, u34, u35, u36, u37, u38, u39, u40, u41, u42, u43, u44, u45, u46, u47, u48, u49, u50, u51, u52, u53, u54, u55, u56, u57, u58, u59, u60, u61, u62, u63, u64, u65, u66, u67, u68, u69, u70, u71, u72, u73, u74, u75, u76, u77, v78, v79, v80, v81, v82, v83, v84, v85, v86, v87, v88, v89, .bool false, u91, u92, u93, u94, u95, u96], []⟩) ∧ Below Wc.heap.size Wc W') ⟨#[u0, u1, u2, u3, u4, .pointer (some ⟨b5, 0, none⟩), u6, u7, u8, u9, u10, u11, .pointer (some ⟨bj, 0, none⟩), .pointer (some ⟨bt, 0, none⟩), u14, u15, u16, u17, u18, u19, u20, u21, u22, u23, u24, u25, u26, u27, u28, u29, u30, u31, u32, u33, u34, u35, u36, u37, u38, u39, u40, u41, u42, u43, u44, u45, u46, u47, u48, u49, u50, u51, u52, u53, u54, u55, u56, u57, u58, u59, u60, u61, u62, u63, u64, u65, u66, u67, u68, u69, u70, u71, u72, u73, u74, u75, u76, u77, u78, u79, u80, u81, u82, u83, u84, u85, u86, u87, u88, u89, u90, u91, u92, u93, u94, u95, u96], []⟩ Wc := by
 have hkb : (kk : Int) < n := by omega
 have hke : decide (n ≤ kk) = false := by simp; omega
 conv in lwReg23At _ => whnf
 refine wpIn_region_any (by kernel_rfl) ?_
 show wpAnyIn _ _ _ _ _ _ 13 _ _ _
 refine wpAnyIn_ready (rs := [0, 1]) (by kernel_rfl) (by simp) ?_
 refine AllReadyIn.cons (o := ⟨some 78, _, _, _, _, _⟩) rfl (fun K hK => ?_) ?_
 ·go_simp
  refine hK _ _ ?_
  clear hK K
  refine wpAnyIn_ready (rs := [1]) (by kernel_rfl) (by simp) ?_
  refine AllReadyIn.cons (o := ⟨some 79, _, _, _, _, _⟩) rfl (fun K hK => ?_) ?_
  ·go_simp
   refine hK _ _ ?_
   clear hK K
   refine wpAnyIn_ready (rs := [2]) (by kernel_rfl) (by simp) ?_
   refine AllReadyIn.cons (o := ⟨some 80, _, _, _, _, _⟩) rfl (fun K hK => ?_) ?_
   ·go_simp
    refine hK _ _ ?_
    clear hK K
    refine wpAnyIn_ready (rs := [3]) (by kernel_rfl) (by simp) ?_
    refine AllReadyIn.cons (o := ⟨some 81, _, _, _, _, _⟩) rfl (fun K hK => ?_) ?_
    ·go_simp
     refine hK _ _ ?_
     clear hK K
     refine wpAnyIn_ready (rs := [4]) (by kernel_rfl) (by simp) ?_
     refine AllReadyIn.cons (o := ⟨some 82, _, _, _, _, _⟩) rfl (fun K hK => ?_) ?_
     ·go_simp
      refine hK _ _ ?_
      clear hK K
      (try rw [hke]); exact anyIn_listed23 (by kernel_rfl) (lw_reg23b h5c x3c y0 y1 y2 y4 y5 q0 q1 q2 q3 q4 hk _hc1 _hc2 _hk4 m3 hmz hd)
     exact AllReadyIn.nil
    exact AllReadyIn.nil
   exact AllReadyIn.nil
  exact AllReadyIn.nil
 refine AllReadyIn.cons (o := ⟨some 79, _, _, _, _, _⟩) rfl (fun K hK => ?_) ?_
 ·go_simp
  refine hK _ _ ?_
  clear hK K
  refine wpAnyIn_ready (rs := [0, 2]) (by kernel_rfl) (by simp) ?_
  refine AllReadyIn.cons (o := ⟨some 78, _, _, _, _, _⟩) rfl (fun K hK => ?_) ?_
  ·go_simp
   refine hK _ _ ?_
   clear hK K
   refine wpAnyIn_ready (rs := [2]) (by kernel_rfl) (by simp) ?_
   refine AllReadyIn.cons (o := ⟨some 80, _, _, _, _, _⟩) rfl (fun K hK => ?_) ?_
   ·go_simp
    refine hK _ _ ?_
    clear hK K
    refine wpAnyIn_ready (rs := [3]) (by kernel_rfl) (by simp) ?_
    refine AllReadyIn.cons (o := ⟨some 81, _, _, _, _, _⟩) rfl (fun K hK => ?_) ?_
    ·go_simp
     refine hK _ _ ?_
     clear hK K
     refine wpAnyIn_ready (rs := [4]) (by kernel_rfl) (by simp) ?_
     refine AllReadyIn.cons (o := ⟨some 82, _, _, _, _, _⟩) rfl (fun K hK => ?_) ?_
     ·go_simp
      refine hK _ _ ?_
      clear hK K
      (try rw [hke]); exact anyIn_listed23 (by kernel_rfl) (lw_reg23b h5c x3c y0 y1 y2 y4 y5 q0 q1 q2 q3 q4 hk _hc1 _hc2 _hk4 m3 hmz hd)
     exact AllReadyIn.nil
    exact AllReadyIn.nil
   exact AllReadyIn.nil
  refine AllReadyIn.cons (o := ⟨some 80, _, _, _, _, _⟩) rfl (fun K hK => ?_) ?_
  ·go_simp
   refine hK _ _ ?_
   clear hK K
   refine wpAnyIn_ready (rs := [0]) (by kernel_rfl) (by simp) ?_
   refine AllReadyIn.cons (o := ⟨some 78, _, _, _, _, _⟩) rfl (fun K hK => ?_) ?_
   ·go_simp
    refine hK _ _ ?_
    clear hK K
    refine wpAnyIn_ready (rs := [3]) (by kernel_rfl) (by simp) ?_
    refine AllReadyIn.cons (o := ⟨some 81, _, _, _, _, _⟩) rfl (fun K hK => ?_) ?_
    ·go_simp
     refine hK _ _ ?_
     clear hK K
     refine wpAnyIn_ready (rs := [4]) (by kernel_rfl) (by simp) ?_
     refine AllReadyIn.cons (o := ⟨some 82, _, _, _, _, _⟩) rfl (fun K hK => ?_) ?_
     ·go_simp
      refine hK _ _ ?_
      clear hK K
      (try rw [hke]); exact anyIn_listed23 (by kernel_rfl) (lw_reg23b h5c x3c y0 y1 y2 y4 y5 q0 q1 q2 q3 q4 hk _hc1 _hc2 _hk4 m3 hmz hd)
     exact AllReadyIn.nil
    exact AllReadyIn.nil
   exact AllReadyIn.nil
  exact AllReadyIn.nil
 exact AllReadyIn.nil
end Go.Proofs.YtcgdhbgjmapoeaaDoor

namespace Go.Proofs.YtcgdhbgjmapoeaaDoor
open Go.RowKit Go.Shelf
attribute [local go_sem] Oper.semAt_some

/-- the first range over a function in a piece of code: its slots, what each round begins with, its body -/
def firstRange : Code → Option (Array Tmp × Code × Code)
 | .rangeFunc _ ps a b => some (ps, a, b)
 | .seq a b => match firstRange a with
  | some c => some c
  | none => firstRange b
 | .cond _ a b => match firstRange a with
  | some c => some c
  | none => firstRange b
 | .block _ c => firstRange c
 | .scope c => firstRange c
 | .loop c => firstRange c
 | _ => none
def lwOutAt (f : Func) : Array Tmp × Code × Code := (f.body.bind firstRange).getD (#[], .skip, .skip)
def lwInAt (f : Func) : Array Tmp × Code × Code := (firstRange (lwOutAt f).2.2).getD (#[], .skip, .skip)

/-- what the range within holds -/
structure JI (wJ : World) (r : Loop) (xs : List TM) (W : World) : Prop where
 below : Below wJ.heap.size wJ W
 box : Boxed W wJ.heap.size 3 (.int .i64 xs.length)
 lp : W.heap[wJ.heap.size + 1]? = some (.loop r)

set_option maxRecDepth 100000 in
set_option maxHeartbeats 6400000 in
theorem lw_inner {s : ByteArray} {wJ : World} {zs : List TM} {va : Option Addr} {vc b5 bz D m : Nat} {x0 : Int} {p0 : Nat} {r : Loop} {fn : FuncId} {u0 u1 u2 u3 u4 u6 u7 u8 u9 u10 u11 u13 u14 u15 u16 u17 u18 u19 u20 u21 u22 u23 u24 u25 u26 u27 u28 u29 u30 u31 u32 u33 u34 u35 u36 u37 u38 u39 u40 u41 u42 u43 u44 u45 u46 u47 u48 u49 u50 u51 u52 u53 u54 u55 u56 u57 u58 u59 u60 u61 u62 u63 u64 u65 u66 u67 u68 u69 u70 u71 u72 u73 u74 u75 u76 u77 u78 u79 u80 u81 u82 u83 u84 u85 u86 u87 u88 u89 u90 u91 u92 u93 u94 u95 u96 : Value}
  (hr : lrec fn #[u0, u1, u2, u3, u4, .pointer (some ⟨b5, 0, none⟩), u6, u7, u8, u9, u10, u11, .pointer (some ⟨wJ.heap.size, 0, none⟩), u13, u14, u15, u16, u17, u18, u19, u20, u21, u22, u23, u24, u25, u26, u27, u28, u29, u30, u31, u32, u33, u34, u35, u36, u37, u38, u39, u40, u41, u42, u43, u44, u45, u46, u47, u48, u49, u50, u51, u52, u53, u54, u55, u56, u57, u58, u59, u60, u61, u62, u63, u64, u65, u66, u67, u68, u69, u70, u71, u72, u73, u74, u75, u76, u77, u78, u79, u80, u81, u82, u83, u84, u85, u86, u87, u88, u89, u90, u91, u92, u93, u94, u95, u96] (lwInAt Tryd.f4).1 (lwInAt Tryd.f4).2.1 (lwInAt Tryd.f4).2.2 D .ready none = r)
  (hS : Sgn wJ) (h5 : Boxed wJ b5 22 (.slice va zs.length vc)) (hrow : wJ.ownsRow bz 46 5 (.slice va zs.length vc) zs.length (zs.flatMap V5)) (hm : ∀ x ∈ zs, ∃ w0, Mg w0 wJ x) (hD : Lxs s (zs.map TM.d) x0 p0)
  {pre : List TM} {x : TM} {W0 W1 : World} (hJ : JI wJ r pre W0) (hlen : pre.length < s.size) (hb : Below W0.heap.size W0 W1) (hM : Mg W0 W1 x) (hp : s.size ≤ 4096 ∧ Pfx s ((pre ++ [x]).map TM.d)) :
  YieldAt Fence.wide m Tryd.prog (wJ.heap.size + 1) #[tokV x] W1 fun e W' => KW (wJ.heap.size + 2) W1 W' ∧ (e = .returned (.bool true) ∧ JI wJ r (pre ++ [x]) W' ∧ ∀ b, W0.heap.size ≤ b → b < W1.heap.size → W'.heap[b]? = W1.heap[b]?) := by
 obtain ⟨hp4, hpx⟩ := hp
 obtain ⟨ts, hts⟩ := pfx_of hS hp4 hD hpx
 have hzl : zs.length = pre.length + 1 + ts.length := by
  have := congrArg List.length hts
  simp at this
  omega
 have hk : pre.length < zs.length := by omega
 have hd : x.d = zs[pre.length].d := by
  have h1 : (zs.map TM.d)[pre.length]? = some x.d := by
   rw [hts, List.map_append, List.append_assoc, List.getElem?_append_right (by simp)]
   simp
  rw [List.getElem?_map, List.getElem?_eq_getElem hk] at h1
  simpa using h1.symm
 replace hd := hide hd
 have hl1 := block_later hJ.lp hb
 refine round_at hr hl1 rfl ?_
 rw [show (lwInAt Tryd.f4).1 = #[77] from rfl]
 conv in (lwInAt _).2.1 => whnf
 conv in (lwInAt _).2.2 => whnf
 simp only [tokV]
 gi_wp2
 have ba : Below W1.heap.size W1 (W1.alloc (.cells #[.int .i64 x.d.kind, .string x.d.text, .bool false, .slice x.ad x.len x.cap, .int .i64 x.d.at'] 44)) := below_alloc _ _
 have y : TB (W1.alloc (.cells #[.int .i64 x.d.kind, .string x.d.text, .bool false, .slice x.ad x.len x.cap, .int .i64 x.d.at'] 44)) W1.heap.size (.int .i64 x.d.kind) (.string x.d.text) (.bool false) (.slice x.ad x.len x.cap) (.int .i64 x.d.at') := tb_new W1 _ _ _ _ _
 generalize (W1.alloc (.cells #[.int .i64 x.d.kind, .string x.d.text, .bool false, .slice x.ad x.len x.cap, .int .i64 x.d.at'] 44)) = Wa at *
 have hl2 := block_later hl1 ba
 refine ⟨hl2, ?_⟩
 have b2 := grow_step ba (grow_step hb hJ.below)
 have x2 := boxed_later (boxed_later hJ.box hb) ba
 have m2 : Mg wJ Wa x := Mg.later ⟨hM.1.outer hJ.below, hM.2⟩ ba
 have b3 : Below wJ.heap.size wJ (Wa.putObj (wJ.heap.size + 1) (.loop { r with state := .busy })) := b2.trans (belowK_b (w := wJ) (Nat.le_refl _) Wa (wJ.heap.size + 1) _ _ (by omega) hl2 rfl rfl)
 have x3 : Boxed (Wa.putObj (wJ.heap.size + 1) (.loop { r with state := .busy })) wJ.heap.size 3 (.int .i64 pre.length) := (World.putObj_heap_other (by omega)).trans x2
 have hkP : KT 55 Wa (Wa.putObj (wJ.heap.size + 1) (.loop { r with state := .busy })) := fun k cs hc => (World.putObj_heap_other (fun e => by subst e; rw [hl2] at hc; cases hc)).trans hc
 have y3 : TB (Wa.putObj (wJ.heap.size + 1) (.loop { r with state := .busy })) W1.heap.size (.int .i64 x.d.kind) (.string x.d.text) (.bool false) (.slice x.ad x.len x.cap) (.int .i64 x.d.at') := (World.putObj_heap_other (fun e => by rw [e] at y; exact absurd (y.symm.trans hl2) (by simp))).trans y
 have hlc : (Wa.putObj (wJ.heap.size + 1) (.loop { r with state := .busy })).heap[wJ.heap.size + 1]? = some (.loop { r with state := .busy }) := World.putObj_heap_same (Array.getElem?_eq_some_iff.1 hl2).1
 have hmid : ∀ b, wJ.heap.size + 2 ≤ b → b < W1.heap.size → (Wa.putObj (wJ.heap.size + 1) (.loop { r with state := .busy })).heap[b]? = W1.heap[b]? := by
  intro b hb1 hb2
  rw [World.putObj_heap_other (by omega)]
  exact ba.block b hb2
 have hW0 : wJ.heap.size + 2 ≤ W0.heap.size := (Array.getElem?_eq_some_iff.1 hJ.lp).1
 have m3 := mg_kt m2 b3 hkP
 have hWc : W1.heap.size ≤ (Wa.putObj (wJ.heap.size + 1) (.loop { r with state := .busy })).heap.size := by simpa [World.putObj] using ba.size
 generalize Wa.putObj (wJ.heap.size + 1) (.loop { r with state := .busy }) = Wc at *
 obtain ⟨w5, hmz⟩ := hm zs[pre.length] (List.getElem_mem hk)
 replace hmz := hmz.later b3
 obtain ⟨g, cap, ev, hgb, hgl, hc1, hc2, hcell⟩ := own_cells hrow (by omega)
 simp only [Value.slice.injEq] at ev
 obtain ⟨rfl, -, rfl⟩ := ev
 have kc : ∀ j, j < 5 → Wc.cell? ⟨g, pre.length * 5 + j, none⟩ = (V5 zs[pre.length])[j]? := fun j hj => (b3.cell (p := ⟨g, pre.length * 5 + j, none⟩) hgl).trans (hcell pre.length j hk hj)
 have h5c := (boxed_later h5 b3).cell
 have x3c := x3.cell
 have x3f := x3.frozen
 have y0 := y3.c0
 have y1 := y3.c1
 have y2 := y3.c2
 have y4 := y3.c3
 have y5 := y3.c4
 generalize zs[pre.length] = y at *
 generalize hn : zs.length = n at hzl h5c hk hc1
 generalize hkk : pre.length = kk at *
 have q0 : Wc.cell? ⟨g, kk * 5, none⟩ = some (.int .i64 y.d.kind) := kc 0 (by decide)
 have q1 : Wc.cell? ⟨g, kk * 5 + 1, none⟩ = some (.string y.d.text) := kc 1 (by decide)
 have q2 : Wc.cell? ⟨g, kk * 5 + 2, none⟩ = some (.bool false) := kc 2 (by decide)
 have q3 : Wc.cell? ⟨g, kk * 5 + 3, none⟩ = some (.slice y.ad y.len y.cap) := kc 3 (by decide)
 have q4 : Wc.cell? ⟨g, kk * 5 + 4, none⟩ = some (.int .i64 y.d.at') := kc 4 (by decide)
 clear kc hcell hts hpx hD hzl hm hrow hM m2 ba hb
 replace hkk := hide hkk
 replace hn := hide hn
 gi_wp2
 refine wpIn_mono (lw_reg23 h5c x3c y0 y1 y2 y4 y5 q0 q1 q2 q3 q4 hk hc1 hc2 (by omega) m3 hmz hd) ?_
 rintro e a' W' ⟨rfl, ⟨v78, v79, v80, v81, v82, v83, v84, v85, v86, v87, v88, v89, rfl⟩, hbW⟩
 have b4 := grow_step hbW b3
 have x4 := boxed_later x3 hbW
 have x4c := x4.cell
 have x4f := x4.frozen
 have l4 := block_later hlc hbW
 have hw1 : (IntKind.i64.wrap ((kk : Int) + 1)) = ((kk + 1 : Nat) : Int) := by rw [IntKind.wrap_i64]; omega
 clear h5c x3c x3f y0 y1 y2 y4 y5 q0 q1 q2 q3 q4 m3 hmz
 gi_wp2
 have hF : ∀ b, wJ.heap.size + 2 ≤ b → b < W1.heap.size → ((W'.setCell ⟨wJ.heap.size, 0, none⟩ (.int .i64 ((kk + 1 : Nat) : Int))).putObj (wJ.heap.size + 1) (.loop { r with state := .ready, pending := none })).heap[b]? = W1.heap[b]? := by
  intro b h1 h2
  rw [World.putObj_heap_other (by omega), (Only.set wJ.heap.size 0 W' _).block b (by omega), hbW.block b (by omega)]
  exact hmid b h1 h2
 have hls := ((Only.set wJ.heap.size 0 W' (.int .i64 ((kk + 1 : Nat) : Int))).block (wJ.heap.size + 1) (by omega)).trans l4
 have hbs := (x4.set (.int .i64 ((kk + 1 : Nat) : Int)))
 have hB5 := b4.trans ((Only.set wJ.heap.size 0 W' (.int .i64 ((kk + 1 : Nat) : Int))).below (Nat.le_refl _))
 refine ⟨hls, fun b o hB ho _ => (hF b hB (Array.getElem?_eq_some_iff.1 ho).1).trans ho, rfl, ⟨hB5.trans (belowK_b (w := wJ) (Nat.le_refl _) _ (wJ.heap.size + 1) _ _ (by omega) hls rfl rfl), ?_, ?_⟩, fun b h1 h2 => hF b (by omega) h2⟩
 ·rw [List.length_append, hkk.out]
  exact (World.putObj_heap_other (by omega)).trans hbs
 ·exact (World.putObj_heap_same (Array.getElem?_eq_some_iff.1 hls).1).trans (by rw [lrec_again hr])
end Go.Proofs.YtcgdhbgjmapoeaaDoor
