/-
 Several texts in one: ZI, LZintMemory.
-/
import Derived.Test.YtmlephkmbkiofaaGreatDoorR12
import Derived.Deep.RegionHeld3
import Derived.Test.YtmlephkmbkiofaaGreatDoorR06
import Derived.Deep.DeepCutAuto
namespace Go.Proofs.YtmlephkmbkiofaaGreatDoor
open Go.RowKit

def isRegion23 : Code → Bool
 | .region m _ _ => m == 23
 | _ => false
def region23Of : Code → Option Code
 | .seq a b => match region23Of a with
  | some c => some c
  | none => region23Of b
 | .cond _ a b => match region23Of a with
  | some c => some c
  | none => region23Of b
 | .block _ c => region23Of c
 | .scope c => region23Of c
 | .loop c => region23Of c
 | c => if isRegion23 c then some c else none
def zmReg23At (f : Func) : Code := (f.body.bind region23Of).getD .skip

set_option maxRecDepth 100000 in
set_option maxHeartbeats 3200000 in
theorem zm_reg23 {s5 : Bool} {a5 : Option Addr} {l5 c5 p12 : Nat} {cc : Int} {wE : World} {u0 u1 u2 u3 u4 u6 u7 u8 u9 u10 u16 u17 u18 u19 u20 u21 u22 u23 u24 u25 u26 u27 u28 u29 u30 u31 u32 u33 u34 u35 u36 u37 u38 u39 u40 u41 u42 u43 u44 u45 u46 u47 u48 u49 u50 u51 u52 u53 u54 u55 u56 u57 u58 u59 u60 u61 u62 u63 u64 u65 u66 u67 u68 u69 u70 u71 u72 u73 u74 u75 u76 u77 u78 u79 u80 u81 u82 u83 u84 u85 u86 u87 u88 u89 u90 u91 u92 u93 u94 u95 u96 u97 u98 u99 u100 u101 u102 u103 u104 u105 : Value} (t12 : ZB wE p12 s5 a5 l5 c5) (z5 : Zn wE s5 a5 l5 c5 5) (hl5 : l5 ≤ 2) :
  (zmReg23At Tryz.f4).wp Tryz.prog (fun e a' W' => e = .normal ∧ (∃ v87 v88 v89 v90 v91 v92 v93 v94 v95 v96 v97 v98 v99 v100 v101 v102 v103 v104 v105 : Value, a' = ⟨#[u0, u1, u2, u3, .bool true, .bool true, u6, u7, u8, u9, u10, .bool true, .pointer (some ⟨p12, 0, none⟩), .bool true, .bool true, .int .i64 cc, u16, u17, u18, u19, u20, u21, u22, u23, u24, u25, u26, u27, u28, u29, u30, u31, u32, u33, u34, u35, u36, u37, u38, u39, u40, u41, u42, u43, u44, u45, u46, u47, u48, u49, u50, u51, u52, u53, u54, u55, u56, u57, u58, u59, u60, u61, u62, u63, u64, u65, u66, u67, u68, u69, u70, u71, u72, u73, u74, u75, u76, u77, u78, u79, u80, u81, u82, u83, u84, u85, u86, v87, v88, v89, v90, v91, v92, v93, v94, v95, v96, v97, v98, v99, v100, v101, v102, v103, v104, v105], []⟩) ∧ Below wE.heap.size wE W') ⟨#[u0, u1, u2, u3, u4, .bool true, u6, u7, u8, u9, u10, .bool true, .pointer (some ⟨p12, 0, none⟩), .bool true, .bool true, .int .i64 cc, u16, u17, u18, u19, u20, u21, u22, u23, u24, u25, u26, u27, u28, u29, u30, u31, u32, u33, u34, u35, u36, u37, u38, u39, u40, u41, u42, u43, u44, u45, u46, u47, u48, u49, u50, u51, u52, u53, u54, u55, u56, u57, u58, u59, u60, u61, u62, u63, u64, u65, u66, u67, u68, u69, u70, u71, u72, u73, u74, u75, u76, u77, u78, u79, u80, u81, u82, u83, u84, u85, u86, u87, u88, u89, u90, u91, u92, u93, u94, u95, u96, u97, u98, u99, u100, u101, u102, u103, u104, u105], []⟩ wE := by
 conv in zmReg23At _ => whnf
 refine wp_region_held_drew (S := (fun w' => w'.cell? ⟨p12, 0, none⟩ = some (.bool s5) ∧ w'.cell? ⟨p12, 1, none⟩ = some (.slice a5 l5 c5) ∧ Below wE.heap.size wE w')) (by kernel_rfl) (by refine zk1 t12 ?_; (repeat' (first | with_reducible exact Below.refl _ _ | with_reducible assumption | with_reducible refine grow_step (by with_reducible assumption) ?_ | with_reducible refine grow_drew ?_ | with_reducible refine grow_alloc ?_ _ | with_reducible refine grow_drewN ?_ _))) (fun hHeld => ?_)
 show wpAnyH _ _ _ _ _ 20 _ _ _
 refine wpAnyH_take (i := 0) (oi := ⟨some 87, _, _, _, _, _⟩) (v := ?_) rfl (by kernel_rfl) (by kernel_rfl) (by kernel_rfl) (fun _ _ _ h => absurd h.1 (by simp)) (Or.inl ⟨by rfl, ?_⟩) (by assumption) ?_
 rotate_left
 ·intro wq hSw; (try dsimp only at hSw); go_simp; (try with_reducible rfl)
 (try simp only [Act.put, List.setIfInBounds_toArray, List.set_cons_zero, List.set_cons_succ])
 refine wpAnyH_take (i := 1) (oi := ⟨some 88, _, _, _, _, _⟩) (v := ?_) rfl (by kernel_rfl) (by kernel_rfl) (by kernel_rfl) (fun _ _ _ h => absurd h.1 (by simp)) (Or.inl ⟨by rfl, ?_⟩) (by assumption) ?_
 rotate_left
 ·intro wq hSw; (try dsimp only at hSw); go_simp; (try with_reducible rfl)
 (try simp only [Act.put, List.setIfInBounds_toArray, List.set_cons_zero, List.set_cons_succ])
 refine wpAnyH_take (i := 2) (oi := ⟨some 89, _, _, _, _, _⟩) (v := ?_) rfl (by kernel_rfl) (by kernel_rfl) (by kernel_rfl) (fun _ _ _ h => absurd h.1 (by simp)) (Or.inl ⟨by rfl, ?_⟩) (by assumption) ?_
 rotate_left
 ·intro wq hSw; (try dsimp only at hSw); go_simp; (try with_reducible rfl)
 (try simp only [Act.put, List.setIfInBounds_toArray, List.set_cons_zero, List.set_cons_succ])
 refine wpAnyH_take (i := 3) (oi := ⟨some 90, _, _, _, _, _⟩) (v := ?_) rfl (by kernel_rfl) (by kernel_rfl) (by kernel_rfl) (fun _ _ _ h => absurd h.1 (by simp)) (Or.inl ⟨by rfl, ?_⟩) (by assumption) ?_
 rotate_left
 ·intro wq hSw; (try dsimp only at hSw); go_simp; (try with_reducible rfl)
 (try simp only [Act.put, List.setIfInBounds_toArray, List.set_cons_zero, List.set_cons_succ])
 refine wpAnyH_take (i := 4) (oi := ⟨some 91, _, _, _, _, _⟩) (v := ?_) rfl (by kernel_rfl) (by kernel_rfl) (by kernel_rfl) (fun _ _ _ h => absurd h.1 (by simp)) (Or.inl ⟨by rfl, ?_⟩) (by assumption) ?_
 rotate_left
 ·intro wq hSw; (try dsimp only at hSw); go_simp; (try with_reducible rfl)
 (try simp only [Act.put, List.setIfInBounds_toArray, List.set_cons_zero, List.set_cons_succ])
 refine wpAnyH_take (i := 5) (oi := ⟨some 92, _, _, _, _, _⟩) (v := ?_) rfl (by kernel_rfl) (by kernel_rfl) (by kernel_rfl) (fun _ _ _ h => absurd h.1 (by simp)) (Or.inl ⟨by rfl, ?_⟩) (by assumption) ?_
 rotate_left
 ·intro wq hSw; (try dsimp only at hSw); go_simp; (try with_reducible rfl)
 (try simp only [Act.put, List.setIfInBounds_toArray, List.set_cons_zero, List.set_cons_succ])
 refine wpAnyH_take (i := 6) (oi := ⟨some 93, _, _, _, _, _⟩) (v := ?_) rfl (by kernel_rfl) (by kernel_rfl) (by kernel_rfl) (fun _ _ _ h => absurd h.1 (by simp)) (Or.inl ⟨by rfl, ?_⟩) (by assumption) ?_
 rotate_left
 ·intro wq hSw; (try dsimp only at hSw); go_simp; (try with_reducible rfl)
 (try simp only [Act.put, List.setIfInBounds_toArray, List.set_cons_zero, List.set_cons_succ])
 refine wpAnyH_take (i := 7) (oi := ⟨some 94, _, _, _, _, _⟩) (v := ?_) rfl (by kernel_rfl) (by kernel_rfl) (by kernel_rfl) (fun _ _ _ h => absurd h.1 (by simp)) (Or.inl ⟨by rfl, ?_⟩) (by assumption) ?_
 rotate_left
 ·intro wq hSw; (try dsimp only at hSw); go_simp; (try with_reducible rfl)
 (try simp only [Act.put, List.setIfInBounds_toArray, List.set_cons_zero, List.set_cons_succ])
 refine wpAnyH_take (i := 8) (oi := ⟨some 95, _, _, _, _, _⟩) (v := ?_) rfl (by kernel_rfl) (by kernel_rfl) (by kernel_rfl) (fun _ _ _ h => absurd h.1 (by simp)) (Or.inl ⟨by rfl, ?_⟩) (by assumption) ?_
 rotate_left
 ·intro wq hSw; (try dsimp only at hSw); go_simp; (try with_reducible rfl)
 (try simp only [Act.put, List.setIfInBounds_toArray, List.set_cons_zero, List.set_cons_succ])
 refine wpAnyH_ready (rs := [9]) (by kernel_rfl) (by simp) ?_
 refine AllReadyH.cons (o := ⟨some 96, _, _, _, _, _⟩) rfl (fun K hK => ?_) ?_
 ·go_simp
  go_at_call 24; refine (rof_n 5 (by decide) (by decide) _).mono ?_; rintro e w' ⟨s6, a6, l6, c6, rfl, z6, hg6, hl6⟩
  (try go_wp2_with fail)
  refine hK.out _ _ ?_ ?_
  ·(try dsimp only); (refine zk1 t12 ?_; (repeat' (first | with_reducible exact Below.refl _ _ | with_reducible assumption | with_reducible refine grow_step (by with_reducible assumption) ?_ | with_reducible refine grow_drew ?_ | with_reducible refine grow_alloc ?_ _ | with_reducible refine grow_drewN ?_ _)))
  clear hK K hHeld; intro hHeld
  (try simp only [Act.put, List.setIfInBounds_toArray, List.set_cons_zero, List.set_cons_succ])
  refine wpAnyH_ready (rs := [10]) (by kernel_rfl) (by simp) ?_
  refine AllReadyH.cons (o := ⟨some 97, _, _, _, _, _⟩) rfl (fun K hK => ?_) ?_
  ·go_simp
   go_at_call 10; refine (is_t (z5.below (by (repeat' (first | with_reducible exact Below.refl _ _ | with_reducible assumption | with_reducible refine grow_step (by with_reducible assumption) ?_ | with_reducible refine grow_drew ?_ | with_reducible refine grow_alloc ?_ _ | with_reducible refine grow_drewN ?_ _)))) z6.zm (by omega) (by omega) rfl).mono ?_; rintro e w' ⟨rfl, hg7⟩
   (try go_wp2_with fail)
   refine hK.out _ _ ?_ ?_
   ·(try dsimp only); (refine zk1 t12 ?_; (repeat' (first | with_reducible exact Below.refl _ _ | with_reducible assumption | with_reducible refine grow_step (by with_reducible assumption) ?_ | with_reducible refine grow_drew ?_ | with_reducible refine grow_alloc ?_ _ | with_reducible refine grow_drewN ?_ _)))
   clear hK K hHeld; intro hHeld
   (try simp only [Act.put, List.setIfInBounds_toArray, List.set_cons_zero, List.set_cons_succ])
   refine wpAnyH_take (i := 11) (oi := ⟨some 98, _, _, _, _, _⟩) (v := ?_) rfl (by kernel_rfl) (by kernel_rfl) (by kernel_rfl) (fun _ _ _ h => absurd h.1 (by simp)) (Or.inl ⟨by rfl, ?_⟩) (by assumption) ?_
   rotate_left
   ·intro wq hSw; (try dsimp only at hSw); go_simp; (try with_reducible rfl)
   (try simp only [Act.put, List.setIfInBounds_toArray, List.set_cons_zero, List.set_cons_succ])
   refine wpAnyH_take (i := 12) (oi := ⟨some 99, _, _, _, _, _⟩) (v := ?_) rfl (by kernel_rfl) (by kernel_rfl) (by kernel_rfl) (fun _ _ _ h => absurd h.1 (by simp)) (Or.inl ⟨by rfl, ?_⟩) (by assumption) ?_
   rotate_left
   ·intro wq hSw; (try dsimp only at hSw); go_simp; (try with_reducible rfl)
   (try simp only [Act.put, List.setIfInBounds_toArray, List.set_cons_zero, List.set_cons_succ])
   refine wpAnyH_take (i := 13) (oi := ⟨some 100, _, _, _, _, _⟩) (v := ?_) rfl (by kernel_rfl) (by kernel_rfl) (by kernel_rfl) (fun _ _ _ h => absurd h.1 (by simp)) (Or.inl ⟨by rfl, ?_⟩) (by assumption) ?_
   rotate_left
   ·intro wq hSw; (try dsimp only at hSw); go_simp; (try with_reducible rfl)
   (try simp only [Act.put, List.setIfInBounds_toArray, List.set_cons_zero, List.set_cons_succ])
   refine wpAnyH_take (i := 14) (oi := ⟨some 101, _, _, _, _, _⟩) (v := ?_) rfl (by kernel_rfl) (by kernel_rfl) (by kernel_rfl) (fun _ _ _ h => absurd h.1 (by simp)) (Or.inl ⟨by rfl, ?_⟩) (by assumption) ?_
   rotate_left
   ·intro wq hSw; (try dsimp only at hSw); go_simp; (try with_reducible rfl)
   (try simp only [Act.put, List.setIfInBounds_toArray, List.set_cons_zero, List.set_cons_succ])
   refine wpAnyH_ready (rs := [15]) (by kernel_rfl) (by simp) ?_
   refine AllReadyH.cons (o := ⟨some 102, _, _, _, _, _⟩) rfl (fun K hK => ?_) ?_
   ·go_simp
    refine hK.out _ _ ?_ ?_
    ·(try dsimp only); (refine zk1 t12 ?_; (repeat' (first | with_reducible exact Below.refl _ _ | with_reducible assumption | with_reducible refine grow_step (by with_reducible assumption) ?_ | with_reducible refine grow_drew ?_ | with_reducible refine grow_alloc ?_ _ | with_reducible refine grow_drewN ?_ _)))
    clear hK K hHeld; intro hHeld
    (try simp only [Act.put, List.setIfInBounds_toArray, List.set_cons_zero, List.set_cons_succ])
    refine wpAnyH_ready (rs := [16]) (by kernel_rfl) (by simp) ?_
    refine AllReadyH.cons (o := ⟨some 103, _, _, _, _, _⟩) rfl (fun K hK => ?_) ?_
    ·go_simp
     refine hK.out _ _ ?_ ?_
     ·(try dsimp only); (refine zk1 t12 ?_; (repeat' (first | with_reducible exact Below.refl _ _ | with_reducible assumption | with_reducible refine grow_step (by with_reducible assumption) ?_ | with_reducible refine grow_drew ?_ | with_reducible refine grow_alloc ?_ _ | with_reducible refine grow_drewN ?_ _)))
     clear hK K hHeld; intro hHeld
     (try simp only [Act.put, List.setIfInBounds_toArray, List.set_cons_zero, List.set_cons_succ])
     refine wpAnyH_take (i := 17) (oi := ⟨some 104, _, _, _, _, _⟩) (v := ?_) rfl (by kernel_rfl) (by kernel_rfl) (by kernel_rfl) (fun _ _ _ h => absurd h.1 (by simp)) (Or.inl ⟨by rfl, ?_⟩) (by assumption) ?_
     rotate_left
     ·intro wq hSw; (try dsimp only at hSw); go_simp; (try with_reducible rfl)
     (try simp only [Act.put, List.setIfInBounds_toArray, List.set_cons_zero, List.set_cons_succ])
     refine wpAnyH_take (i := 18) (oi := ⟨some 105, _, _, _, _, _⟩) (v := ?_) rfl (by kernel_rfl) (by kernel_rfl) (by kernel_rfl) (fun _ _ _ h => absurd h.1 (by simp)) (Or.inl ⟨by rfl, ?_⟩) (by assumption) ?_
     rotate_left
     ·intro wq hSw; (try dsimp only at hSw); go_simp; (try with_reducible rfl)
     (try simp only [Act.put, List.setIfInBounds_toArray, List.set_cons_zero, List.set_cons_succ])
     refine wpAnyH_take (i := 19) (oi := ⟨some 4, _, _, _, _, _⟩) (v := ?_) rfl (by kernel_rfl) (by kernel_rfl) (by kernel_rfl) (fun _ _ _ h => absurd h.1 (by simp)) (Or.inl ⟨by rfl, ?_⟩) (by assumption) ?_
     rotate_left
     ·intro wq hSw; (try dsimp only at hSw); go_simp; (try with_reducible rfl)
     (try simp only [Act.put, List.setIfInBounds_toArray, List.set_cons_zero, List.set_cons_succ])
     refine wpAnyH_done (by kernel_rfl) ?_ _
     exact ⟨rfl, ⟨_, _, _, _, _, _, _, _, _, _, _, _, _, _, _, _, _, _, _, rfl⟩, by (repeat' (first | with_reducible exact Below.refl _ _ | with_reducible assumption | with_reducible refine grow_step (by with_reducible assumption) ?_ | with_reducible refine grow_drew ?_ | with_reducible refine grow_alloc ?_ _ | with_reducible refine grow_drewN ?_ _))⟩
    exact AllReadyH.nil
   exact AllReadyH.nil
  exact AllReadyH.nil
 exact AllReadyH.nil
end Go.Proofs.YtmlephkmbkiofaaGreatDoor

namespace Go.Proofs.YtmlephkmbkiofaaGreatDoor
open Go.RowKit

theorem zm_rd {w : World} {s : Bool} {ad : Option Addr} {len cap : Nat} {z : Int} (h : Zm w s ad len cap z) : ∃ xs, Rd w ad len cap xs ∧ z = sg s (val xs) := by
 obtain ⟨n, ⟨xs, h1, rfl⟩, h2⟩ := h
 exact ⟨xs, h1, h2⟩
/-- a number that is lent reads as it did -/
theorem lent_zm {w : World} {s : Bool} {b l : Nat} {xs : List Int} (h : Row w b (xs ++ [77, 78])) (hL : Limbs xs) (hl : xs.length = l) (hb : l ≤ 1048576) : Zm w s (some ⟨b, 0, none⟩) l (l + 2) (sg s (val xs)) := by
 have hL2 : Limbs (xs ++ [77, 78]) := hL.append (fun z hz => by simp at hz; omega)
 have r := h.rd hL2 (off := 0) (len := l) (cap := l + 2) (by simp [hl]) (by omega) (by omega)
 rw [List.drop_zero, show (xs ++ [77, 78] : List Int).take l = xs by rw [← hl, List.take_left]] at r
 exact ⟨val xs, ⟨xs, r, rfl⟩, rfl⟩
theorem zlen_le {B : Nat} {w : World} {s : Bool} {ad : Option Addr} {len cap : Nat} {z : Int} (h : Fresh.Zn B w s ad len cap z) : len ≤ cap := by
 obtain ⟨n, ⟨⟨zs, h1, _⟩, _⟩, _⟩ := h
 exact h1.2.1
theorem fr_ne_zb {B : Nat} {w : World} {ad a : Option Addr} {cap r l c : Nat} {s : Bool} (h : Fresh.Fr B w ad cap) (y : ZB w r s a l c) : blk ad ≠ some r := by
 rcases h with ⟨rfl, _⟩ | ⟨b, xs, rfl, _, h3, _⟩
 ·intro e; cases e
 ·intro e
  cases e
  have e := Option.some.inj ((show w.heap[b]? = _ from y).symm.trans h3)
  injection e with _ e
  exact absurd e (by decide)
/-- an answer stays where another one is written over -/
theorem zn_other {B : Nat} {w w' : World} {s : Bool} {ad aq : Option Addr} {len cap : Nat} {z : Int} (h : Fresh.Zn B w s ad len cap z) (hap : ∀ b, blk ad = some b → blk aq ≠ some b) (hs : w.heap.size ≤ w'.heap.size) (hk : ∀ k, k < w.heap.size → blk aq ≠ some k → w'.heap[k]? = w.heap[k]?) : Fresh.Zn B w' s ad len cap z := by
 obtain ⟨n, ⟨⟨zs, h1, h2, h3⟩, h4, h5⟩, h6⟩ := h
 have hf : Fresh.Fr B w' ad cap := by
  rcases h5 with h5 | ⟨b, ys, rfl, k1, k2, k3⟩
  ·exact .inl h5
  ·exact .inr ⟨b, ys, rfl, k1, (hk b (Fresh.row_lt k2) (hap b rfl)).trans k2, k3⟩
 refine ⟨n, ⟨⟨zs, ?_, h2, h3⟩, Nat.le_trans h4 hs, hf⟩, h6⟩
 obtain ⟨r1, r2, r3, r4, r5⟩ := h1
 refine ⟨r1, r2, r3, r4, ?_⟩
 rcases r5 with r5 | ⟨a, rfl, r5⟩
 ·exact .inl r5
 ·refine .inr ⟨a, rfl, ?_⟩
  rcases r5 with r5 | ⟨b, off, rfl, r6, r7⟩
  ·exact .inl r5
  ·refine .inr ⟨b, off, rfl, Nat.lt_of_lt_of_le r6 hs, fun i hi => ?_⟩
   rw [← r7 i hi]
   unfold World.cell?
   rw [show w'.heap[b]? = w.heap[b]? from hk b r6 (hap b rfl)]

set_option maxRecDepth 100000 in
set_option maxHeartbeats 6400000 in
theorem zintMemory_walk {s1 : Bool} {a1 : Option Addr} {l1 c1 : Nat} {z1 : Int} {s2 : Bool} {a2 : Option Addr} {l2 c2 : Nat} {z2 : Int} {w : World} (n1 : Zm w s1 a1 l1 c1 z1) (h1 : l1 ≤ 1048576) (n2 : Zm w s2 a2 l2 c2 z2) (h2 : l2 ≤ 1048576) (htab : Tab w) :
  Calls Tryz.prog 4 #[.agg #[.bool s1, .slice a1 l1 c1], .agg #[.bool s2, .slice a2 l2 c2]] w fun e w' => e = .returned (.bool true) ∧ Below w.heap.size w w' := by
 go_enter Tryz.func4, Tryz.ntmps4
 go_wp2_with fail
 have x1 := (zb_new w s1 a1 l1 c1).below (below_alloc _ (.cells #[.bool s2, .slice a2 l2 c2] 26))
 have x2 := zb_new (w.alloc (.cells #[.bool s1, .slice a1 l1 c1] 26)) s2 a2 l2 c2
 rw [show (w.alloc (.cells #[.bool s1, .slice a1 l1 c1] 26)).heap.size = w.heap.size + 1 from by simp] at x2
 have b0 : Below w.heap.size w ((w.alloc (.cells #[.bool s1, .slice a1 l1 c1] 26)).alloc (.cells #[.bool s2, .slice a2 l2 c2] 26)) := below_alloc' (below_alloc _ _) _
 generalize ((w.alloc (.cells #[.bool s1, .slice a1 l1 c1] 26)).alloc (.cells #[.bool s2, .slice a2 l2 c2] 26)) = wb0 at *
 obtain ⟨xs, rx, rfl⟩ := zm_rd n1
 obtain ⟨ys, ry, rfl⟩ := zm_rd n2
 replace n1 := n1.below b0
 replace n2 := n2.below b0
 replace rx := rx.below b0
 replace ry := ry.below b0
 replace htab := htab.below b0
 generalize w.heap.size + 1 = p2 at *
 generalize hp : w.heap.size = p1 at *
 replace hp := hide hp
 go_wp2_with fail
 refine (awake_any wb0 htab).mono ?_
 rintro e w1 ⟨rfl, k1⟩
 replace b0 := b0.trans (k1.mono (Nat.le_of_lt x1.lt))
 replace x1 := x1.below k1
 replace x2 := x2.below k1
 replace n1 := n1.below k1
 replace n2 := n2.below k1
 replace rx := rx.below k1
 replace ry := ry.below k1
 clear k1 htab
 have u0 := x1.c0
 have u1 := x1.c1
 go_wp2_with fail
 refine (zlent_any rx (by omega)).mono ?_
 rintro e w2 ⟨f1, rfl, k2, hf1, row1⟩
 have k2a : Below w1.heap.size w1 (w2.alloc (.cells #[.bool s1, .slice (some ⟨f1, 0, none⟩) l1 (l1 + 2)] 26)) := below_alloc' k2 _
 have t1 := zb_new w2 s1 (some ⟨f1, 0, none⟩) l1 (l1 + 2)
 replace row1 : Row (w2.alloc (.cells #[.bool s1, .slice (some ⟨f1, 0, none⟩) l1 (l1 + 2)] 26)) f1 (xs ++ [77, 78]) := ((below_alloc w2 _).block f1 (Fresh.row_lt row1)).trans row1
 replace b0 := b0.trans (k2a.mono (Nat.le_of_lt x1.lt))
 replace x1 := x1.below k2a
 replace x2 := x2.below k2a
 replace n1 := n1.below k2a
 replace n2 := n2.below k2a
 replace rx := rx.below k2a
 replace ry := ry.below k2a
 clear u0 u1
 have u0 := x2.c0
 have u1 := x2.c1
 go_wp2_with fail
 generalize w2.alloc (.cells #[.bool s1, .slice (some ⟨f1, 0, none⟩) l1 (l1 + 2)] 26) = w3 at *
 generalize w2.heap.size = p6 at *
 clear k2 k2a u0 u1
 refine (zlent_any ry (by omega)).mono ?_
 rintro e w4 ⟨f2, rfl, k4, hf2, row2⟩
 have k4a : Below w3.heap.size w3 (w4.alloc (.cells #[.bool s2, .slice (some ⟨f2, 0, none⟩) l2 (l2 + 2)] 26)) := below_alloc' k4 _
 have t2 := zb_new w4 s2 (some ⟨f2, 0, none⟩) l2 (l2 + 2)
 replace row2 : Row (w4.alloc (.cells #[.bool s2, .slice (some ⟨f2, 0, none⟩) l2 (l2 + 2)] 26)) f2 (ys ++ [77, 78]) := ((below_alloc w4 _).block f2 (Fresh.row_lt row2)).trans row2
 replace row1 : Row (w4.alloc (.cells #[.bool s2, .slice (some ⟨f2, 0, none⟩) l2 (l2 + 2)] 26)) f1 (xs ++ [77, 78]) := (k4a.block f1 (Fresh.row_lt row1)).trans row1
 replace b0 := b0.trans (k4a.mono (Nat.le_of_lt x1.lt))
 replace x1 := x1.below k4a
 replace x2 := x2.below k4a
 replace n1 := n1.below k4a
 replace n2 := n2.below k4a
 replace rx := rx.below k4a
 replace ry := ry.below k4a
 replace t1 := t1.below k4a
 have u0 := t1.c0
 have u1 := t1.c1
 go_wp2_with fail
 generalize w4.alloc (.cells #[.bool s2, .slice (some ⟨f2, 0, none⟩) l2 (l2 + 2)] 26) = wk at *
 generalize w4.heap.size = p7 at *
 clear k4 k4a u0 u1 hf1 hf2
 have zx := lent_zm (s := s1) row1 rx.2.2.2.1 rx.1 h1
 have zy := lent_zm (s := s2) row2 ry.2.2.2.1 ry.1 h2
 have hK : Below wk.heap.size wk wk := Below.refl _ _
 refine (Fresh.norm_n (Fresh.zm_of (zx.below hK) hK.size) (by omega)).mono ?_
 rintro e w5 ⟨s', ad, len, cap, rfl, hz, hb, hlx⟩
 go_wp2_with fail
 refine (zover_any hz.fr (Nat.le_trans hK.size hb.size) (zlen_le hz)).mono ?_
 rintro e w6 ⟨⟨v, rfl⟩, hb6, -⟩
 replace hK := (hK.trans (hb.mono hK.size)).trans hb6
 clear hz hb hb6 hlx
 have u0 := (t1.below hK).c0
 have u1 := (t1.below hK).c1
 have u2 := (t2.below hK).c0
 have u3 := (t2.below hK).c1
 go_wp2_with fail
 clear u0 u1 u2 u3
 refine (Fresh.neg_n (Fresh.zm_of (zx.below hK) hK.size) (by omega)).mono ?_
 rintro e w5 ⟨s', ad, len, cap, rfl, hz, hb, hlx⟩
 go_wp2_with fail
 refine (zover_any hz.fr (Nat.le_trans hK.size hb.size) (zlen_le hz)).mono ?_
 rintro e w6 ⟨⟨v, rfl⟩, hb6, -⟩
 replace hK := (hK.trans (hb.mono hK.size)).trans hb6
 clear hz hb hb6 hlx
 have u0 := (t1.below hK).c0
 have u1 := (t1.below hK).c1
 have u2 := (t2.below hK).c0
 have u3 := (t2.below hK).c1
 go_wp2_with fail
 clear u0 u1 u2 u3
 refine (Fresh.abs_n (Fresh.zm_of (zx.below hK) hK.size) (by omega)).mono ?_
 rintro e w5 ⟨s', ad, len, cap, rfl, hz, hb, hlx⟩
 go_wp2_with fail
 refine (zover_any hz.fr (Nat.le_trans hK.size hb.size) (zlen_le hz)).mono ?_
 rintro e w6 ⟨⟨v, rfl⟩, hb6, -⟩
 replace hK := (hK.trans (hb.mono hK.size)).trans hb6
 clear hz hb hb6 hlx
 have u0 := (t1.below hK).c0
 have u1 := (t1.below hK).c1
 have u2 := (t2.below hK).c0
 have u3 := (t2.below hK).c1
 go_wp2_with fail
 clear u0 u1 u2 u3
 refine (Fresh.zadd_n (Fresh.zm_of (zx.below hK) hK.size) (Fresh.zm_of (zy.below hK) hK.size) (by omega) (by omega)).mono ?_
 rintro e w5 ⟨s', ad, len, cap, rfl, hz, hb, hlx⟩
 go_wp2_with fail
 refine (zover_any hz.fr (Nat.le_trans hK.size hb.size) (zlen_le hz)).mono ?_
 rintro e w6 ⟨⟨v, rfl⟩, hb6, -⟩
 replace hK := (hK.trans (hb.mono hK.size)).trans hb6
 clear hz hb hb6 hlx
 have u0 := (t1.below hK).c0
 have u1 := (t1.below hK).c1
 have u2 := (t2.below hK).c0
 have u3 := (t2.below hK).c1
 go_wp2_with fail
 clear u0 u1 u2 u3
 refine (Fresh.zsub_n (Fresh.zm_of (zx.below hK) hK.size) (Fresh.zm_of (zy.below hK) hK.size) (by omega) (by omega)).mono ?_
 rintro e w5 ⟨s', ad, len, cap, rfl, hz, hb, hlx⟩
 go_wp2_with fail
 refine (zover_any hz.fr (Nat.le_trans hK.size hb.size) (zlen_le hz)).mono ?_
 rintro e w6 ⟨⟨v, rfl⟩, hb6, -⟩
 replace hK := (hK.trans (hb.mono hK.size)).trans hb6
 clear hz hb hb6 hlx
 have u0 := (t1.below hK).c0
 have u1 := (t1.below hK).c1
 have u2 := (t2.below hK).c0
 have u3 := (t2.below hK).c1
 go_wp2_with fail
 clear u0 u1 u2 u3
 refine (Fresh.zmul_n (Fresh.zm_of (zx.below hK) hK.size) (Fresh.zm_of (zy.below hK) hK.size) (by omega) (by omega)).mono ?_
 rintro e w5 ⟨s', ad, len, cap, rfl, hz, hb, hlx⟩
 go_wp2_with fail
 refine (zover_any hz.fr (Nat.le_trans hK.size hb.size) (zlen_le hz)).mono ?_
 rintro e w6 ⟨⟨v, rfl⟩, hb6, -⟩
 replace hK := (hK.trans (hb.mono hK.size)).trans hb6
 clear hz hb hb6 hlx
 have u0 := (t1.below hK).c0
 have u1 := (t1.below hK).c1
 have u2 := (t2.below hK).c0
 have u3 := (t2.below hK).c1
 go_wp2_with fail
 clear u0 u1 u2 u3
 refine (zdivmod_all (Fresh.zm_of (zx.below hK) hK.size) (Fresh.zm_of (zy.below hK) hK.size) (by omega) (by omega)).mono ?_
 rintro e w5 ⟨sq, aq, lq, cq, sr, ar, lr, cr, qv, rv, er, rfl, hq, hr, hrm, hb, hlr, hap⟩
 replace hK := hK.trans (hb.mono hK.size)
 have kq : Below w5.heap.size w5 ((w5.alloc (.cells #[.bool sq, .slice aq lq cq] 26)).alloc (.cells #[.bool sr, .slice ar lr cr] 26)) := below_alloc' (below_alloc _ _) _
 have t8 := (zb_new w5 sq aq lq cq).below (below_alloc _ (.cells #[.bool sr, .slice ar lr cr] 26))
 have t9 := zb_new (w5.alloc (.cells #[.bool sq, .slice aq lq cq] 26)) sr ar lr cr
 rw [show (w5.alloc (.cells #[.bool sq, .slice aq lq cq] 26)).heap.size = w5.heap.size + 1 from by simp] at t9
 replace hq := hq.below kq
 replace hr := hr.below kq
 replace hK := hK.trans (kq.mono hK.size)
 have u0 := t8.c0
 have u1 := t8.c1
 clear hb kq
 go_wp2_with fail
 generalize (w5.alloc (.cells #[.bool sq, .slice aq lq cq] 26)).alloc (.cells #[.bool sr, .slice ar lr cr] 26) = w6 at *
 generalize w5.heap.size + 1 = p9 at *
 generalize w5.heap.size = p8 at *
 clear u0 u1
 refine (zover_any hq.fr hK.size (zlen_le hq)).mono ?_
 rintro e w7 ⟨⟨v, rfl⟩, hb7, hk7⟩
 replace hr := zn_other hr hap hb7.size hk7
 replace t9 : ZB w7 p9 sr ar lr cr := (hk7 p9 t9.lt (fr_ne_zb hq.fr t9)).trans t9
 replace hK := hK.trans hb7
 clear hq hap hk7 hb7 t8
 have y1 := x1.below hK
 have y2 := x2.below hK
 have m1 := n1.below hK
 have m2 := n2.below hK
 have hr' := hr.zn
 go_wp2_with fail
 go_region_held3 (fun w' => w'.cell? ⟨p9, 0, none⟩ = some (.bool sr) ∧ w'.cell? ⟨p9, 1, none⟩ = some (.slice ar lr cr) ∧ w'.cell? ⟨p1, 0, none⟩ = some (.bool s1) ∧ w'.cell? ⟨p1, 1, none⟩ = some (.slice a1 l1 c1) ∧ w'.cell? ⟨p2, 0, none⟩ = some (.bool s2) ∧ w'.cell? ⟨p2, 1, none⟩ = some (.slice a2 l2 c2))
  ((refine zc3 t9 y1 y2 ?_; (repeat' (first | with_reducible exact Below.refl _ _ | with_reducible assumption | with_reducible refine grow_step (by with_reducible assumption) ?_ | with_reducible refine grow_drew ?_ | with_reducible refine grow_alloc ?_ _ | with_reducible refine grow_drewN ?_ _))))
  (first | (go_at_call 21; refine (rmod_all (m1.below (by (repeat' (first | with_reducible exact Below.refl _ _ | with_reducible assumption | with_reducible refine grow_step (by with_reducible assumption) ?_ | with_reducible refine grow_drew ?_ | with_reducible refine grow_alloc ?_ _ | with_reducible refine grow_drewN ?_ _)))) (m2.below (by (repeat' (first | with_reducible exact Below.refl _ _ | with_reducible assumption | with_reducible refine grow_step (by with_reducible assumption) ?_ | with_reducible refine grow_drew ?_ | with_reducible refine grow_alloc ?_ _ | with_reducible refine grow_drewN ?_ _)))) (by omega) (by omega)).mono ?_; rintro e w' ⟨sm, am, lm, cm, rm, rfl, hm, hrm2, hg, hlm⟩) | (go_at_call 10; refine (is_t (hr'.below (by (repeat' (first | with_reducible exact Below.refl _ _ | with_reducible assumption | with_reducible refine grow_step (by with_reducible assumption) ?_ | with_reducible refine grow_drew ?_ | with_reducible refine grow_alloc ?_ _ | with_reducible refine grow_drewN ?_ _)))) hm.zm (by omega) (by omega) (rm_unique hrm hrm2)).mono ?_; rintro e w' ⟨rfl, hg2⟩))
 have k8 : Below w7.heap.size w7 w' := by (repeat' (first | with_reducible exact Below.refl _ _ | with_reducible assumption | with_reducible refine grow_step (by with_reducible assumption) ?_ | with_reducible refine grow_drew ?_ | with_reducible refine grow_alloc ?_ _ | with_reducible refine grow_drewN ?_ _))
 replace t9 := t9.below k8
 replace hr := hr.below k8
 replace hK := hK.trans (k8.mono hK.size)
 clear y1 y2 m1 m2 hr' hm hrm2 hg hlm hg2 k8 hrm hlr
 have u0 := t9.c0
 have u1 := t9.c1
 go_wp2_with fail
 clear u0 u1
 refine (zover_any hr.fr hK.size (zlen_le hr)).mono ?_
 rintro e w9 ⟨⟨v9, rfl⟩, hb9, -⟩
 replace hK := hK.trans hb9
 clear hr t9 hb9
 have u0 := (t1.below hK).c0
 have u1 := (t1.below hK).c1
 have u2 := (t2.below hK).c0
 have u3 := (t2.below hK).c1
 go_wp2_with fail
 clear u0 u1 u2 u3
 refine (Fresh.zgcd1 (Fresh.zm_of (zx.below hK) hK.size) (by omega)).mono ?_
 rintro e w5 ⟨s', ad, len, cap, zz, rfl, hz, hb⟩
 go_wp2_with fail
 refine (zover_any hz.fr (Nat.le_trans hK.size hb.size) (zlen_le hz)).mono ?_
 rintro e w6 ⟨⟨v, rfl⟩, hb6, -⟩
 replace hK := (hK.trans (hb.mono hK.size)).trans hb6
 clear hz hb hb6
 have u0 := (t1.below hK).c0
 have u1 := (t1.below hK).c1
 have u2 := (t2.below hK).c0
 have u3 := (t2.below hK).c1
 go_wp2_with fail
 clear u0 u1 u2 u3
 refine (Fresh.zgcd2 (Fresh.zm_of (zx.below hK) hK.size) (Fresh.zm_of (zy.below hK) hK.size) (by omega) (by omega)).mono ?_
 rintro e w5 ⟨s', ad, len, cap, zz, rfl, hz, hb⟩
 go_wp2_with fail
 refine (zover_any hz.fr (Nat.le_trans hK.size hb.size) (zlen_le hz)).mono ?_
 rintro e w6 ⟨⟨v, rfl⟩, hb6, -⟩
 replace hK := (hK.trans (hb.mono hK.size)).trans hb6
 clear hz hb hb6
 have u0 := (t1.below hK).c0
 have u1 := (t1.below hK).c1
 have u2 := (t2.below hK).c0
 have u3 := (t2.below hK).c1
 go_wp2_with fail
 clear u0 u1 u2 u3
 refine (Fresh.zlcm1 (Fresh.zm_of (zx.below hK) hK.size) (by omega)).mono ?_
 rintro e w5 ⟨s', ad, len, cap, zz, rfl, hz, hb⟩
 go_wp2_with fail
 refine (zover_any hz.fr (Nat.le_trans hK.size hb.size) (zlen_le hz)).mono ?_
 rintro e w6 ⟨⟨v, rfl⟩, hb6, -⟩
 replace hK := (hK.trans (hb.mono hK.size)).trans hb6
 clear hz hb hb6
 have u0 := (t1.below hK).c0
 have u1 := (t1.below hK).c1
 have u2 := (t2.below hK).c0
 have u3 := (t2.below hK).c1
 go_wp2_with fail
 clear u0 u1 u2 u3
 refine (Fresh.zlcm2 (Fresh.zm_of (zx.below hK) hK.size) (Fresh.zm_of (zy.below hK) hK.size) (by omega) (by omega)).mono ?_
 rintro e w5 ⟨s', ad, len, cap, zz, rfl, hz, hb⟩
 go_wp2_with fail
 refine (zover_any hz.fr (Nat.le_trans hK.size hb.size) (zlen_le hz)).mono ?_
 rintro e w6 ⟨⟨v, rfl⟩, hb6, -⟩
 replace hK := (hK.trans (hb.mono hK.size)).trans hb6
 clear hz hb hb6
 have u0 := (t1.below hK).c0
 have u1 := (t1.below hK).c1
 have u2 := (t2.below hK).c0
 have u3 := (t2.below hK).c1
 go_wp2_with fail
 clear u0 u1 u2 u3
 refine (Fresh.zof_n 5 (by decide) (by decide) _ hK.size).mono ?_
 rintro e w5 ⟨s', ad, len, cap, rfl, hz, hb, hlx⟩
 go_wp2_with fail
 refine (zover_any hz.fr (Nat.le_trans hK.size hb.size) (zlen_le hz)).mono ?_
 rintro e w6 ⟨⟨v, rfl⟩, hb6, -⟩
 replace hK := (hK.trans (hb.mono hK.size)).trans hb6
 clear hz hb hb6 hlx
 have u0 := (t1.below hK).c0
 have u1 := (t1.below hK).c1
 have u2 := (t2.below hK).c0
 have u3 := (t2.below hK).c1
 go_wp2_with fail
 clear u0 u1 u2 u3
 refine (zof_n 5 (by decide) (by decide) _).mono ?_
 rintro e w5 ⟨s5, a5, l5, c5, rfl, z5, hb5, hl5⟩
 have kB : Below w5.heap.size w5 (w5.alloc (.cells #[.bool s5, .slice a5 l5 c5] 26)) := below_alloc _ _
 have t12 := zb_new w5 s5 a5 l5 c5
 replace z5 := z5.below kB
 replace hK := (hK.trans (hb5.mono hK.size)).trans (kB.mono (Nat.le_trans hK.size hb5.size))
 clear hb5 kB
 have u0 := (t1.below hK).c0
 have u1 := (t1.below hK).c1
 have u2 := (x1.below hK).c0
 have u3 := (x1.below hK).c1
 go_wp2_with fail
 generalize w5.alloc (.cells #[.bool s5, .slice a5 l5 c5] 26) = w6 at *
 generalize w5.heap.size = p12 at *
 clear u0 u1 u2 u3
 refine (zstays_t ((hK.block f1 (Fresh.row_lt row1)).trans row1) (rx.below hK) (by omega)).mono ?_
 rintro e wC ⟨rfl, kC⟩
 replace t12 := t12.below kC
 replace z5 := z5.below kC
 replace hK := hK.trans (kC.mono hK.size)
 clear kC
 have u0 := (t2.below hK).c0
 have u1 := (t2.below hK).c1
 have u2 := (x2.below hK).c0
 have u3 := (x2.below hK).c1
 go_wp2_with fail
 clear u0 u1 u2 u3
 refine (zstays_t ((hK.block f2 (Fresh.row_lt row2)).trans row2) (ry.below hK) (by omega)).mono ?_
 rintro e wD ⟨rfl, kD⟩
 replace t12 := t12.below kD
 replace z5 := z5.below kD
 replace hK := hK.trans (kD.mono hK.size)
 clear kD
 have u2 := (x2.below hK).c0
 have u3 := (x2.below hK).c1
 go_wp2_with fail
 clear u2 u3
 refine (rsign_n (n2.below hK) (by omega)).mono ?_
 rintro e wE ⟨rfl, kE⟩
 replace t12 := t12.below kE
 replace z5 := z5.below kE
 replace hK := hK.trans (kE.mono hK.size)
 clear kE
 generalize cmpI (sg s2 (val ys)) 0 = cc
 go_wp2_with fail
 refine Code.wp_mono ?_ (zm_reg23 t12 z5 hl5)
 rintro e a' w' ⟨rfl, ⟨v87, v88, v89, v90, v91, v92, v93, v94, v95, v96, v97, v98, v99, v100, v101, v102, v103, v104, v105, rfl⟩, kf⟩
 go_wp2_with fail
 go_ret
 exact ⟨rfl, hp.out.symm ▸ ((b0.trans (hK.mono (Nat.le_of_lt x1.lt))).trans (kf.mono (Nat.le_trans (Nat.le_of_lt x1.lt) hK.size)))⟩
end Go.Proofs.YtmlephkmbkiofaaGreatDoor
