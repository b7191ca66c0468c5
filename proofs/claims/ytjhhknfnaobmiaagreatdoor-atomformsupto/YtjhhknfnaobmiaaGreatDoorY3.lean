/-
 Layer 5: gather.
-/
import Derived.Test.YtjhhknfnaobmiaaGreatDoorY1
import Derived.Deep.LoopGhost
namespace Go.Proofs.YtjhhknfnaobmiaaGreatDoor
open Go.RowKit
open Go.Maps (Keyed)
open Tm

theorem below_grown {w0 w w' : World} {m : Nat} (h : Below w0.heap.size w0 w) (hg : w.grownBy w' (some m)) (hm : w0.heap.size ≤ m) : Below w0.heap.size w0 w' :=
 h.grown hg h.size (fun k e => by cases e; exact hm)

theorem flat_len (pss : List (List (Int × Int))) (t : Nat) (h : t < pss.length) : (pss.take t).flatten.length + pss[t].length ≤ pss.flatten.length := by
 have e : pss.flatten = (pss.take t).flatten ++ (pss.drop t).flatten := by rw [← List.flatten_append, List.take_append_drop]
 rw [e, List.length_append, List.drop_eq_getElem_cons h, List.flatten_cons, List.length_append]
 omega
/-- the block of a variable that holds a part -/
def PB (w : World) (b : Nat) (v : Int) (s : Bool) (a : Option Addr) (l c : Nat) : Prop := w.heap[b]? = some (.cells #[.int .i64 v, .bool s, .slice a l c] 71 (0, 0))
theorem pb_new (w : World) (v : Int) (s : Bool) (a : Option Addr) (l c : Nat) : PB (w.alloc (.cells #[.int .i64 v, .bool s, .slice a l c] 71)) w.heap.size v s a l c := heap_alloc_new w _
theorem PB.lt {w : World} {b : Nat} {v : Int} {s : Bool} {a : Option Addr} {l c : Nat} (h : PB w b v s a l c) : b < w.heap.size := (Array.getElem?_eq_some_iff.1 h).1
theorem PB.c0 {w : World} {b : Nat} {v : Int} {s : Bool} {a : Option Addr} {l c : Nat} (h : PB w b v s a l c) : w.cell? ⟨b, 0, none⟩ = some (.int .i64 v) := cell_of_row w b 0 _ _ (0, 0) h
theorem PB.c1 {w : World} {b : Nat} {v : Int} {s : Bool} {a : Option Addr} {l c : Nat} (h : PB w b v s a l c) : w.cell? ⟨b, 1, none⟩ = some (.bool s) := cell_of_row w b 1 _ _ (0, 0) h
theorem PB.c2 {w : World} {b : Nat} {v : Int} {s : Bool} {a : Option Addr} {l c : Nat} (h : PB w b v s a l c) : w.cell? ⟨b, 2, none⟩ = some (.slice a l c) := cell_of_row w b 2 _ _ (0, 0) h
theorem pk {wb w' : World} {q m : Nat} {v : Int} {s : Bool} {a : Option Addr} {l c : Nat} (x : PB wb q v s a l c) (hq : q ≠ m) (k : wb.grownBy w' (some m)) :
  w'.cell? ⟨q, 0, none⟩ = some (.int .i64 v) ∧ w'.cell? ⟨q, 1, none⟩ = some (.bool s) ∧ w'.cell? ⟨q, 2, none⟩ = some (.slice a l c) ∧ wb.grownBy w' (some m) := by
 have x' : PB w' q v s a l c := (k.block q x.lt (by simpa using hq)).trans x
 exact ⟨x'.c0, x'.c1, x'.c2, k⟩
theorem gb_below {wb w1 w2 : World} {m : Nat} (h : wb.grownBy w1 (some m)) (k : Below w1.heap.size w1 w2) : wb.grownBy w2 (some m) :=
 ⟨k.os.trans h.os, k.tape.trans h.tape, k.output.trans h.output, Nat.le_trans h.size k.size, fun i hi hne => (k.block i (Nat.lt_of_lt_of_le hi h.size)).trans (h.block i hi hne)⟩
theorem gb_trans {a b c : World} {m : Nat} (h : a.grownBy b (some m)) (k : b.grownBy c (some m)) : a.grownBy c (some m) :=
 ⟨k.os.trans h.os, k.tape.trans h.tape, k.output.trans h.output, Nat.le_trans h.size k.size, fun i hi hne => (k.block i (Nat.lt_of_lt_of_le hi h.size) hne).trans (h.block i hi hne)⟩

set_option maxRecDepth 100000 in
set_option maxHeartbeats 1600000 in
theorem gather_n {w : World} {b off k cap : Nat} {pss : List (List (Int × Int))} {B : Nat} (hk : pss.length = k) (hk2 : k ≤ 2) (hbl : b < w.heap.size)
  (hL : ∀ j (h : j < pss.length), ∃ ad n cp, w.cell? ⟨b, off + j, none⟩ = some (.slice ad n cp) ∧ Pr w ad n pss[j] B) (hB : B + pss.flatten.length ≤ 536870912) :
  Calls Tryz.prog 81 #[.slice (some ⟨b, off, none⟩) k cap] w fun e w' => ∃ m, e = .returned (.map (some m)) ∧ GM w' m pss.flatten.length (csum pss.flatten) (B + pss.flatten.length) ∧ Below w.heap.size w w' ∧ w.heap.size ≤ m := by
 have hmm := run_makeMap (P := Tryz.prog) 86 w
 go_enter Tryz.func81, Tryz.ntmps81
 go_wp2_with fail
 have hG0 := gm_new w B
 have b0 := below_alloc w (.map #[] 0)
 generalize w.alloc (.map #[] 0) = w1 at *
 generalize hm : w.heap.size = m at *
 replace b0 : Below w.heap.size w w1 := hm ▸ b0
 replace hbl : b < w.heap.size := hm ▸ hbl
 replace hm := hide hm
 clear hmm
 go_loopw [11] (fun j wr => ∃ t : Nat, t ≤ k ∧ j = .int .i64 t ∧ GM wr m (pss.take t).flatten.length (csum (pss.take t).flatten) (B + (pss.take t).flatten.length) ∧ Below w.heap.size w wr) (fun j _ => k - (intOf j).toNat)
 case atStart => exact ⟨0, Nat.zero_le _, rfl, by simpa [csum] using hG0, b0⟩
 case round =>
  obtain ⟨t, ht, rfl, hG, kr⟩ := hrel
  by_cases htk : t < k
  ·obtain ⟨ad, n, cp, hc, hP⟩ := hL t (by omega)
   replace hc := (kr.cell (p := ⟨b, off + t, none⟩) hbl).trans hc
   have hsplit := hide (List.take_succ_eq_append_getElem (l := pss) (i := t) (by omega))
   have hlen := hide (flat_len pss t (by omega))
   generalize pss[t] = ps at *
   generalize hqs : (pss.take t).flatten = qs at *
   replace hqs := hide hqs
   obtain ⟨hn, hP⟩ := hP
   have hnb : n ≤ 536870912 := by have := hlen.out; omega
   go_wp2_with fail
   go_loopw [17] (fun i wv => ∃ s : Nat, s ≤ n ∧ i = .int .i64 s ∧ GM wv m (qs ++ ps.take s).length (csum (qs ++ ps.take s)) (B + (qs ++ ps.take s).length) ∧ Below w.heap.size w wv) (fun i _ => n - (intOf i).toNat)
   case atStart => exact ⟨0, Nat.zero_le _, rfl, by simpa using hG, kr⟩
   case round =>
    obtain ⟨s, hs, rfl, hG, kv⟩ := hrel
    by_cases hsn : s < n
    ·rcases hP with hP | ⟨bp, op, rfl, hP⟩
     ·omega
     ·have hPA := (hP.below kv).2 s (by omega)
      obtain ⟨s1, a1, l1, c1, e0, e1, e2, hz, hl1, hv⟩ := hPA
      have hps : Hid (ps.take (s + 1) = ps.take s ++ [ps[s]]) := List.take_succ_eq_append_getElem (l := ps) (i := s) (by omega)
      have hle : (qs ++ ps.take s).length + 1 ≤ qs.length + ps.length := by rw [List.length_append, List.length_take]; omega
      replace hle : B + (qs ++ ps.take s).length + 1 ≤ 536870912 := by have := hlen.out; omega
      generalize ps[s] = p at *
      go_wp2_with fail
      have x := pb_new wr p.1 s1 a1 l1 c1
      have kb := below_alloc wr (.cells #[.int .i64 p.1, .bool s1, .slice a1 l1 c1] 71)
      have hqm : wr.heap.size ≠ m := Nat.ne_of_gt hG.lt
      replace hG := hG.below kb
      replace hz := hz.below kb
      replace kv := hide (grow_step kb kv)
      clear kb e0 e1 e2
      generalize wr.alloc (.cells #[.int .i64 p.1, .bool s1, .slice a1 l1 c1] 71) = wb at *
      generalize wr.heap.size = q at *
      have kd := grow_drew (Below.refl wb.heap.size wb)
      have hGd := hG.below kd
      replace hz := hz.below kd
      obtain ⟨s2, a2, l2, c2, hlook, hz2, hl2⟩ := hGd.look hv
      have hd : wb.grownBy wb.drew (some m) := ⟨rfl, rfl, rfl, Nat.le_refl _, fun _ _ _ => rfl⟩
      go_region_held3 (fun w' => w'.cell? ⟨q, 0, none⟩ = some (.int .i64 p.1) ∧ w'.cell? ⟨q, 1, none⟩ = some (.bool s1) ∧ w'.cell? ⟨q, 2, none⟩ = some (.slice a1 l1 c1) ∧ wb.grownBy w' (some m))
       ((refine pk x hqm ?_; assumption))
       (first | (go_at_call 38; refine (zadd_n hz2.zm hz (by omega) (by omega)).mono ?_; rintro e w1 ⟨s3, a3, l3, c3, rfl, hz3, k3, hl3⟩; obtain ⟨w2, hst, hG2, hg2⟩ := (hGd.below k3).store hv (by omega) hz3 (B' := B + (qs ++ ps.take s).length + 1) (by omega) (by omega); have hg1 := gb_below hd k3; replace hg2 := gb_trans hg1 hg2))
      replace kv := hide (below_grown kv.out hg2 (Nat.le_of_eq hm.out))
      go_wp2_with fail
      refine ⟨⟨s + 1, by omega, by go_num, ?_, kv⟩, by simp [intOf]; omega⟩
      rw [hps.out, ← List.append_assoc, show csum (qs ++ ps.take s ++ [p]) = fun u => if u = p.1 then csum (qs ++ ps.take s) p.1 + p.2 else csum (qs ++ ps.take s) u from funext fun u => by
       rw [csum_snoc]
       by_cases e : u = p.1
       ·subst e; simp
       ·have e' : ¬ p.1 = u := fun h => e h.symm
        simp [e, e']]
      simpa [Nat.add_assoc] using hG2
    ·obtain rfl : s = n := by omega
     have e1 := hide (show (pss.take (t + 1)).flatten = qs ++ ps.take s by rw [hsplit.out, List.flatten_append, List.flatten_singleton, hqs.out, List.take_of_length_le (Nat.le_of_eq hn)])
     go_wp2_with fail
     refine ⟨⟨t + 1, by omega, by go_num, ?_, kv⟩, by simp [intOf]; omega⟩
     rw [e1.out]
     exact hG
  ·obtain rfl : t = k := by omega
   rw [List.take_of_length_le (Nat.le_of_eq hk)] at hG
   go_wp2
   go_ret
   exact ⟨m, rfl, hG, kr, Nat.le_of_eq hm.out⟩
end Go.Proofs.YtjhhknfnaobmiaaGreatDoor
