/-
 Several texts in one: PK, PL.
-/
import Derived.Test.YtgpaajolcpgeaaaGreatDoorSrd15
import Derived.Defers
import Derived.Recover
namespace Go.Proofs.YtgpaajolcpgeaaaGreatDoor
open Go.RowKit
namespace Sx

set_option maxRecDepth 100000 in
theorem caught_idle (p1 p2 : Addr) (w : World) :
  CallsD Tryz.prog 65 #[.pointer (some p1), .pointer (some p2)] .returning w fun e u' w' => e = .returned (.tuple #[]) ∧ u' = .returning ∧ w' = w := by
 refine callsD_of_wpS Tryz.func65 rfl fun c₀ cs hu => ?_
 apply wpS_seq
 apply wpS_region
 simp [wpOpsS, go_sem, recoverD, hu, Tryz.ntmps65, Exit.thenS]
 refine wpS_of_wp ?_
 rw [show (#[Value.pointer (some p1), Value.pointer (some p2)] ++ (Array.replicate 11 undef).setIfInBounds 3 Value.nilIface) = #[.pointer (some p1), .pointer (some p2), undef, undef, undef, .nilIface, undef, undef, undef, undef, undef, undef, undef] from rfl]
 go_wp2
 cases c₀
 simp_all [bodyPostS, results, Tryz.results65]
theorem assert_mis (c1 c2 : Int) (w : World) : (Instr.typeAssert (.iface 31 (.agg #[.int .i64 c1, .int .i64 c2])) 20 31 true).run Tryz.prog w = .ok (.tuple #[.agg #[.int .i64 c1, .int .i64 c2], .bool true]) w := by kernel_rfl
set_option maxRecDepth 100000 in
set_option maxHeartbeats 1600000 in
theorem caught_panic (b1 b2 : Nat) (x : TC) (m1 m2 : Int) (c : Int × Nat) (w : World) (h1 : VB w b1 x) (h2 : w.heap[b2]? = some (.cells #[.int .i64 m1, .int .i64 m2] 31 (0, 0))) (hne : b1 ≠ b2) :
  CallsD Tryz.prog 65 #[.pointer (some ⟨b1, 0, none⟩), .pointer (some ⟨b2, 0, none⟩)] (.panicking [{ v := .iface 31 (.agg #[.int .i64 c.1, .int .i64 c.2]), recovered := false }]) w fun e u' w' =>
   e = .returned (.tuple #[]) ∧ u' = .panicking [{ v := .iface 31 (.agg #[.int .i64 c.1, .int .i64 c.2]), recovered := true }] ∧ ∃ w0, Below w.heap.size w w0 ∧ w' = ((vSet w0 b1 tz).setCell ⟨b2, 0, none⟩ (.int .i64 c.1)).setCell ⟨b2, 1, none⟩ (.int .i64 c.2) := by
 refine callsD_of_wpS Tryz.func65 rfl fun c₀ cs hu => ?_
 apply wpS_seq
 apply wpS_region
 simp [wpOpsS, go_sem, recoverD, hu, Tryz.ntmps65, Exit.thenS]
 refine wpS_of_wp ?_
 obtain ⟨c1, c2⟩ := c
 dsimp only at *
 rw [show (#[Value.pointer (some ⟨b1, 0, none⟩), Value.pointer (some ⟨b2, 0, none⟩)] ++ (Array.replicate 11 undef).setIfInBounds 3 (Value.iface 31 (Value.agg #[Value.int IntKind.i64 c1, Value.int IntKind.i64 (c2 : Int)]))) = #[.pointer (some ⟨b1, 0, none⟩), .pointer (some ⟨b2, 0, none⟩), undef, undef, undef, (Value.iface 31 (Value.agg #[Value.int IntKind.i64 c1, Value.int IntKind.i64 (c2 : Int)])), undef, undef, undef, undef, undef, undef, undef] from rfl]
 have b0 := below_alloc w (.cells #[.int .i64 c1, .int .i64 (c2 : Int)] 31)
 have hn := heap_alloc_new w (.cells #[.int .i64 c1, .int .i64 (c2 : Int)] 31)
 have y3 := h1.below b0
 have z3 := (b0.block b2 (lt_of_block h2)).trans h2
 have hl1 := h1.lt
 have hl2 := lt_of_block h2
 have hu2 := hide hu
 have has := assert_mis c1 c2
 have n0 := cell_of_row _ w.heap.size 0 _ _ (0, 0) hn
 have n1 := cell_of_row _ w.heap.size 1 _ _ (0, 0) hn
 clear hu h1 h2
 go_wp2_with fail
 have hln : w.heap.size ≠ b1 ∧ w.heap.size ≠ b2 := by omega
 have hls : w.heap.size < (w.alloc (.cells #[.int .i64 c1, .int .i64 (c2 : Int)] 31)).heap.size := by simp
 generalize hwa : w.alloc (.cells #[.int .i64 c1, .int .i64 (c2 : Int)] 31) = wa at *
 replace hwa := hide hwa
 have hgd := hide (grow_drew (Below.refl wa.heap.size wa))
 have y4 := y3.below hgd.out
 have z4 := (hgd.out.block b2 (lt_of_block z3)).trans z3
 have n4 := (hgd.out.block w.heap.size hls).trans hn
 refine wp_region_held_drew (S := (fun w' => w'.cell? ⟨w.heap.size, 0, none⟩ = some (.int .i64 c1) ∧ w'.cell? ⟨w.heap.size, 1, none⟩ = some (.int .i64 (c2 : Int)))) (by kernel_rfl) ⟨cell_of_row _ w.heap.size 0 _ _ (0, 0) n4, cell_of_row _ w.heap.size 1 _ _ (0, 0) n4⟩ (fun hHeld => ?_)
 show wpAnyH _ _ _ _ _ 4 _ _ _
 generalize wa.drew = wd3 at *
 refine wpAnyH_take (i := 0) (oi := ⟨some 11, _, _, _, _, _⟩) (v := ?_) rfl (by kernel_rfl) (by kernel_rfl) (by kernel_rfl) (fun _ _ _ h => by first | exact h | cases h.1) (Or.inl ⟨by rfl, ?_⟩) (by assumption) ?_
 rotate_left
 ·intro wq hSw; (try dsimp only at hSw); go_simp; (try with_reducible rfl)
 (try simp only [Act.put, List.setIfInBounds_toArray, List.set_cons_zero, List.set_cons_succ])
 refine wpAnyH_take (i := 1) (oi := ⟨some 12, _, _, _, _, _⟩) (v := ?_) rfl (by kernel_rfl) (by kernel_rfl) (by kernel_rfl) (fun _ _ _ h => by first | exact h | cases h.1) (Or.inl ⟨by rfl, ?_⟩) (by assumption) ?_
 rotate_left
 ·intro wq hSw; (try dsimp only at hSw); go_simp; (try with_reducible rfl)
 (try simp only [Act.put, List.setIfInBounds_toArray, List.set_cons_zero, List.set_cons_succ])
 refine wpAnyH_ready (rs := [2]) (by kernel_rfl) (by simp) ?_
 refine AllReadyH.cons (o := ⟨none, _, _, _, _, _⟩) rfl (fun K hK => ?_) AllReadyH.nil
 have q0 := y4.c0
 have f0 := y4.f 0
 have q1 := y4.c1
 have f1 := y4.f 1
 have q2' := y4.c2
 have f2 := y4.f 2
 have q3 := y4.c3
 have f3 := y4.f 3
 have q4 := y4.c4
 have f4 := y4.f 4
 have q5 := y4.c5
 have f5 := y4.f 5
 have ho := v_only wd3 b1 tz
 have n5 := (ho.block w.heap.size hln.1).trans n4
 have z5 := (ho.block b2 (fun e => hne e.symm)).trans z4
 go_simp
 refine hK.out _ _ ?_ ?_
 ·(try dsimp only); exact ⟨cell_of_row _ w.heap.size 0 _ _ (0, 0) n5, cell_of_row _ w.heap.size 1 _ _ (0, 0) n5⟩
 clear hK K hHeld; intro hHeld
 (try simp only [Act.put, List.setIfInBounds_toArray, List.set_cons_zero, List.set_cons_succ])
 have hbw := hide (grow_step (Below.refl wd3.heap.size wd3) (b0.trans (hgd.out.mono b0.size)))
 change wpAnyH _ _ _ _ _ _ _ _ (vSet wd3 b1 tz)
 clear q0 q1 q2' q3 q4 q5 f0 f1 f2 f3 f4 f5
 generalize hw5 : vSet wd3 b1 tz = w5 at *
 replace hw5 := hide hw5
 refine wpAnyH_ready (rs := [3]) (by kernel_rfl) (by simp) ?_
 refine AllReadyH.cons (o := ⟨none, _, _, _, _, _⟩) rfl (fun K hK => ?_) AllReadyH.nil
 have e0 := cell_of_row _ b2 0 _ _ (0, 0) z5
 have e1 := cell_of_row _ b2 1 _ _ (0, 0) z5
 have f0 := frozen_of_row _ b2 0 _ _ z5
 have f1 := frozen_of_row _ b2 1 _ _ z5
 have n6 := (((Only.set b2 0 w5 (.int .i64 c1)).trans (Only.set b2 1 _ (.int .i64 (c2 : Int)))).block w.heap.size hln.2).trans n5
 go_simp
 refine hK.out _ _ ?_ ?_
 ·(try dsimp only); exact ⟨cell_of_row _ w.heap.size 0 _ _ (0, 0) n6, cell_of_row _ w.heap.size 1 _ _ (0, 0) n6⟩
 clear hK K hHeld; intro hHeld
 (try simp only [Act.put, List.setIfInBounds_toArray, List.set_cons_zero, List.set_cons_succ])
 refine wpAnyH_done (by kernel_rfl) ?_ _
 go_wp2
 cases c₀
 simp [bodyPostS, results, Tryz.results65]
 refine ⟨wd3, hbw.out, ?_⟩
 rw [hw5.out]
end Sx
end Go.Proofs.YtgpaajolcpgeaaaGreatDoor

namespace Go.Proofs.YtgpaajolcpgeaaaGreatDoor
open Go.RowKit
namespace Sx

theorem InS.imp {F F' : Nat → Prop} {a : Option Addr} {n : Nat} (h : InS F a n) (hF : ∀ b, F b → F' b) : InS F' a n := fun b off e h0 => hF b (h b off e h0)
theorem Ws.imp {F F' : Nat → Prop} {w : World} {xs : List TM} {va : Option Addr} {vn : Nat} (h : Ws F w xs va vn) (hF : ∀ b, F b → F' b) : Ws F' w xs va vn :=
 ⟨h.n, h.row.imp id fun ⟨g, e, hb, hl, h2⟩ => ⟨g, e, hF g hb, hl, h2⟩, fun x hx => ⟨(h.mag x hx).1, InS.imp (h.mag x hx).2.1 hF, (h.mag x hx).2.2⟩⟩
theorem results_cc {P : Program} {fn : Func} {p1 p2 : Tmp} {ty1 ty2 : TypeId} (h : fn.results = #[.cell p1 ty1, .cell p2 ty2]) (tmps : Array Value) (w : World) (g1 g2 : Nat) (t1 t2 : TypeId) (cs1 cs2 : Array Value) (fr1 fr2 : Nat × Nat) (d1 d2 : TypeDesc)
  (hp1 : tmps.getD p1 undef = .pointer (some ⟨g1, 0, none⟩)) (hp2 : tmps.getD p2 undef = .pointer (some ⟨g2, 0, none⟩)) (hg1 : w.heap[g1]? = some (.cells cs1 t1 fr1)) (hg2 : w.heap[g2]? = some (.cells cs2 t2 fr2))
  (hu1 : P.underlying ty1 = some d1) (hu2 : P.underlying ty2 = some d2) (hd1 : (match d1 with | .struct _ | .array _ _ => true | _ => false) = true) (hd2 : (match d2 with | .struct _ | .array _ _ => true | _ => false) = true) (hi1 : (P.info? ty1).map (·.size) = some cs1.size) (hi2 : (P.info? ty2).map (·.size) = some cs2.size) :
  (results fn tmps).run P w = .ok (.tuple #[.agg cs1, .agg cs2]) w := by
 have hp1' : tmps[p1]?.getD undef = .pointer (some ⟨g1, 0, none⟩) := by simpa using hp1
 have hp2' : tmps[p2]?.getD undef = .pointer (some ⟨g2, 0, none⟩) := by simpa using hp2
 simp [results, h, hp1', hp2', asAddr, run_loadVar_row w g1 t1 ty1 cs1 fr1 d1 hg1 hu1 hd1 hi1, run_loadVar_row w g2 t2 ty2 cs2 fr2 d2 hg2 hu2 hd2 hi2]
theorem below_gb {m : Nat} {w w3 w4 : World} (h : Below w.heap.size w w3) (g : w3.grownBy w4 (some m)) (hm : w.heap.size ≤ m) : Below w.heap.size w w4 :=
 ⟨g.os.trans h.os, g.tape.trans h.tape, g.output.trans h.output, Nat.le_trans h.size g.size, fun i hi => (g.block i (Nat.lt_of_lt_of_le hi h.size) (fun e => by have := Option.some.inj e; omega)).trans (h.block i hi)⟩
/-- what read answers: the tree of all words, or the error -/
def RdR (P : Nat → Prop) (w : World) (e : Nat) (xs : List TM) (en : Ending) (w' : World) : Prop :=
 Below w.heap.size w w' ∧ ∃ r n, Gr e n 0 [] (rem xs 0) = some r ∧ match r with
  | .inl c => en = .returned (.tuple #[tz.val, .agg #[.int .i64 c.1, .int .i64 c.2]])
  | .inr (t, []) => ∃ x : TC, en = .returned (.tuple #[x.val, .agg #[.int .i64 0, .int .i64 0]]) ∧ Rt (fun b => P b ∨ w.heap.size ≤ b) w' x t
  | .inr (_, ts) => en = .returned (.tuple #[tz.val, .agg #[.int .i64 (bad e ts).1, .int .i64 (bad e ts).2]])
set_option maxRecDepth 100000 in
set_option maxHeartbeats 3200000 in
theorem read_bad {w : World} {va : Option Addr} {vn vc e : Nat} {xs : List TM} {P : Nat → Prop} (hP : ∀ b, P b → b < w.heap.size) (hW : Ws P w xs va vn) (hO : Wo w) (hn : vn ≤ 1048576) (hsh : Sht xs) {n : Nat} {c : Int × Nat} (hr : Gr e n 0 [] (rem xs 0) = some (.inl c)) :
  Calls Tryz.prog 37 #[.slice va vn vc, .int .i64 e] w fun en w' => RdR P w e xs en w' := by
 have hmf : ∀ (fn : Fn) (first cap : Array Value) (w : World), (Instr.makeFunc fn first cap).run Tryz.prog w = .ok (.func fn first cap) w := fun _ _ _ _ => rfl
 have b1 := below_alloc w (.cells #[.int .i64 0, .string ⟨#[]⟩, .slice none 0 0, .bool false, .slice none 0 0, .slice none 0 0] 28)
 have b2 := below_alloc' b1 (.cells #[.int .i64 0, .int .i64 0] 31)
 have b3 := below_alloc' b2 (.cells #[.slice va vn vc, .int .i64 0, .int .i64 e] 122)
 have y : VB _ w.heap.size tz := ((below_alloc _ (.cells #[.slice va vn vc, .int .i64 0, .int .i64 e] 122)).block w.heap.size (by simp; omega)).trans (((below_alloc _ (.cells #[.int .i64 0, .int .i64 0] 31)).block w.heap.size (by simp)).trans (vb_zero w))
 have z2 := heap_alloc_new (w.alloc (.cells #[.int .i64 0, .string ⟨#[]⟩, .slice none 0 0, .bool false, .slice none 0 0, .slice none 0 0] 28)) (.cells #[.int .i64 0, .int .i64 0] 31)
 rw [show (w.alloc (.cells #[.int .i64 0, .string ⟨#[]⟩, .slice none 0 0, .bool false, .slice none 0 0, .slice none 0 0] 28)).heap.size = w.heap.size + 1 by simp] at z2
 have z := ((below_alloc _ (.cells #[.slice va vn vc, .int .i64 0, .int .i64 e] 122)).block (w.heap.size + 1) (lt_of_block z2)).trans z2
 have hb := heap_alloc_new ((w.alloc (.cells #[.int .i64 0, .string ⟨#[]⟩, .slice none 0 0, .bool false, .slice none 0 0, .slice none 0 0] 28)).alloc (.cells #[.int .i64 0, .int .i64 0] 31)) (.cells #[.slice va vn vc, .int .i64 0, .int .i64 e] 122)
 rw [show ((w.alloc (.cells #[.int .i64 0, .string ⟨#[]⟩, .slice none 0 0, .bool false, .slice none 0 0, .slice none 0 0] 28)).alloc (.cells #[.int .i64 0, .int .i64 0] 31)).heap.size = w.heap.size + 1 + 1 by simp] at hb
 have hS : Rx.S ⟨w.heap.size + 1 + 1, P, va, vn, vc, e, xs⟩ _ 0 := ⟨hb, (hW.kf (Kf.of_below b3)).imp fun b h => ⟨Nat.lt_succ_of_lt (Nat.lt_succ_of_lt (hP b h)), h⟩, Nat.zero_le _, hn, fun h => absurd h.1 (Nat.lt_irrefl _), hO.below b3, fun h => absurd h (Nat.ne_of_lt (Nat.lt_succ_of_lt (Nat.lt_succ_of_lt hO.lt)))⟩
 have hc := hide (formula_n (X := ⟨w.heap.size + 1 + 1, P, va, vn, vc, e, xs⟩) hsh n _ 0 (.inl c) hS hr)
 clear hS hb b1 b2 z2
 go_enter_defers Tryz.func37, Tryz.ntmps37
 go_wp2_with fail
 generalize hw3 : ((w.alloc (.cells #[.int .i64 0, .string ⟨#[]⟩, .slice none 0 0, .bool false, .slice none 0 0, .slice none 0 0] 28)).alloc (.cells #[.int .i64 0, .int .i64 0] 31)).alloc (.cells #[.slice va vn vc, .int .i64 0, .int .i64 e] 122) = w3 at *
 clear hw3
 refine hc.out.mono ?_
 rintro en w4 ⟨g4, hpan⟩
 unfold Pan at hpan
 subst hpan
 have y4 := y.grown g4 (by show w.heap.size ≠ w.heap.size + 1 + 1; omega)
 have z4 := (g4.block (w.heap.size + 1) (lt_of_block z) (by simp)).trans z
 go_wp2
 refine leaves_cons (f := 65) (args := #[.pointer (some ⟨w.heap.size, 0, none⟩), .pointer (some ⟨w.heap.size + 1, 0, none⟩)]) (by simp) (by simp [go_sem]) ?_
 refine (caught_panic w.heap.size (w.heap.size + 1) tz 0 0 c w4 y4 z4 (by omega)).mono ?_
 rintro en u' w5 ⟨rfl, rfl, w0, k0, rfl⟩
 have y5 := vb_set (y4.below k0) tz
 have z5 := ((v_only w0 w.heap.size tz).block (w.heap.size + 1) (by omega)).trans ((k0.block _ (lt_of_block z4)).trans z4)
 have z6 := heap_setCell_same _ (w.heap.size + 1) 1 _ 31 (.int .i64 c.2) (heap_setCell_same _ (w.heap.size + 1) 0 _ 31 (.int .i64 c.1) z5)
 have y6 : VB _ w.heap.size tz := (((Only.set (w.heap.size + 1) 0 _ (.int .i64 c.1)).trans (Only.set (w.heap.size + 1) 1 _ (.int .i64 c.2))).block w.heap.size (by omega)).trans y5
 simp only [settle]
 refine ⟨_, results_cc rfl _ _ w.heap.size (w.heap.size + 1) 28 31 _ _ (0, 0) (0, 0) _ _ rfl rfl y6 z6 Tryz.underlying28 Tryz.underlying31 rfl rfl (by kernel_rfl) (by kernel_rfl), ?_, .inl c, n, hr, rfl⟩
 exact ((grow_step k0 (below_gb b3 g4 (by show w.heap.size ≤ w.heap.size + 1 + 1; omega))).trans ((v_only w0 w.heap.size tz).below (Nat.le_refl _))).trans (((Only.set (w.heap.size + 1) 0 _ _).trans (Only.set (w.heap.size + 1) 1 _ _)).below (by omega))
end Sx
end Go.Proofs.YtgpaajolcpgeaaaGreatDoor
